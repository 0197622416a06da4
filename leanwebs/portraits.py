"""Portraits: which places cut, which four are linked and which places are hinges, seen in a web or told by means."""

from leanwebs.fours import Four, lots_of_four
from leanwebs.given import means_in, need_small, row_of
from leanwebs.hinges import parts_three
from leanwebs.lots import joined, subsets
from leanwebs.ratios import is_integer, sign_of, times
from leanwebs.ways import apart, cuts


def plain_row(row):
    """Return the row as a tuple in which integers are Python's own."""
    return tuple([int(part) if is_integer(part) else part for part in row])


class Portrait:
    """Rows of what cuts, of what is linked, and of what is a hinge, for many places."""

    def __init__(self, many, cutting, links, hinges):
        self.many = int(many) if is_integer(many) else many
        self.cutting = tuple([plain_row(row) for row in cutting])
        self.links = tuple([plain_row(row) for row in links])
        self.hinges = tuple([plain_row([hinge, plain_row(three)]) for hinge, three in hinges])

    def __eq__(self, other):
        return (isinstance(other, Portrait) and self.many == other.many and self.cutting == other.cutting
                and self.links == other.links and self.hinges == other.hinges)


def chosen_of(many, size):
    """Return the list of the lots of so many places, in order."""
    return [lot for lot in subsets(list(range(many))) if len(lot) == size]


def parted(many, size):
    """Return the list of tuples (place, lot of so many other places), in order."""
    return [(place, lot) for place in range(many) for lot in chosen_of(many, size) if place not in lot]


def told_portrait(spread):
    """Return the portrait of a spread, told by its means."""
    told = means_in(spread)
    fours = {lot: Four([told[part] for part in lots_of_four(lot)]) for lot in chosen_of(spread.many, 4)}
    cutting = [(x, u, w) for x, (u, w) in parted(spread.many, 2)
               if told[(u, w)] == times(told[joined((u,), (x,))], told[joined((x,), (w,))])]
    links = [[sign_of(link) > 0 for link in four.links] for four in fours.values()]
    hinges = []
    for hinge, three in parted(spread.many, 3):
        lot = tuple(sorted((hinge,) + three))
        if fours[lot].knot == fours[lot].by_way(lot.index(hinge)):
            hinges.append((hinge, three))
    return Portrait(spread.many, cutting, links, hinges)


def seen_portrait(web, kept):
    """Return the portrait of a row of places, seen in the ways of the whole web."""
    need_small(web)
    row = row_of(kept, web.many)
    many = len(row)
    cutting = [(x, u, w) for x, (u, w) in parted(many, 2) if cuts(web, row[x], row[u], row[w])]
    links = []
    for a, b, c, d in chosen_of(many, 4):
        pairs = (((a, b), (c, d)), ((a, c), (b, d)), ((a, d), (b, c)))
        links.append([apart(web, (row[u], row[v]), (row[w], row[z])) is not None for (u, v), (w, z) in pairs])
    hinges = [(hinge, three) for hinge, three in parted(many, 3)
              if parts_three(web, row[hinge], tuple([row[place] for place in three]))]
    return Portrait(many, cutting, links, hinges)
