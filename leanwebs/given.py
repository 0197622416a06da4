"""What several modules need of the places and rows that they are given, and the webs and means around them."""

from leanwebs.along import need_row
from leanwebs.bundles import need_few_ties
from leanwebs.errors import BadPlace, BadRow, TooMany
from leanwebs.lots import even_lots, is_place
from leanwebs.pieces import parts_of
from leanwebs.ratios import is_row, lowest, over_common
from leanwebs.sums import index_of_no, means, signed_sums
from leanwebs.webs import Web

MOST_SMALL = 6


def need_small(web):
    """Raise TooMany for a web that is not small."""
    if web.many > MOST_SMALL:
        raise TooMany(web.many, MOST_SMALL)
    need_few_ties(web)


def place_of(value, many):
    """Return the value if it is one of so many places; BadPlace if it is none."""
    if not is_place(value, many):
        raise BadPlace()
    return int(value)


def two_places(u, v, many):
    """Return two places as a tuple in the order given; BadPlace unless they are distinct places."""
    pair = (place_of(u, many), place_of(v, many))
    if pair[0] == pair[1]:
        raise BadPlace()
    return pair


def row_of(row, many):
    """Return the row of some of so many places as a tuple; BadRow if it is none."""
    if not is_row(row) or not all([is_place(place, many) for place in row]):
        raise BadRow()
    found = tuple([int(place) for place in row])
    if len(set(found)) < len(found):
        raise BadRow()
    return found


def four_places(four, many):
    """Return the row of four places as a tuple; BadRow if it is none."""
    need_row(four, 4)
    return row_of(four, many)


def means_by_lot(web):
    """Return a dict of the means of all even lots."""
    return {lot: told for lot, told in means(web)}


def means_in(spread):
    """Return a dict of the means of all even lots of a spread."""
    tops, bottom = over_common(spread.rows)
    sums = signed_sums(tops)
    return {lot: lowest(sums[index_of_no(lot, spread.many)], bottom) for lot in even_lots(spread.many)}


def with_pulls(web, pulls):
    """Return the web of the same shape with these pulls."""
    return Web(web.many, [(u, v, t) for (u, v, _), t in zip(web.ties, pulls)])


def pieces_without(web, place):
    """Return the parting of the other places into their pieces when the place and its ties are taken out."""
    pairs = [(u, v) for u, v, (p, _) in web.ties if p != 0 and place not in (u, v)]
    return parts_of([other for other in range(web.many) if other != place], pairs)
