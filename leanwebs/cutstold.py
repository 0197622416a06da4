"""Tables of the means of pairs, and the cuts, the rows between and the firm lots that they tell."""

from leanwebs.errors import BadTable, TooMany
from leanwebs.given import means_by_lot, place_of, two_places
from leanwebs.lots import count_of, joined, lots
from leanwebs.ratios import is_ratio, is_row, over_common, ratio_of, times
from leanwebs.spreads import pairs_of
from leanwebs.ways import cuts

MOST_TABLE = 7


def entries_of(table, length):
    """Return a table of so many entries as a tuple of ratios in lowest terms, or raise what is wrong with it."""
    if not is_row(table) or len(table) != length:
        raise BadTable(-1)
    found = []
    for at, told in enumerate(table):
        if not is_ratio(told):
            raise BadTable(at)
        p, q = ratio_of(told)
        if abs(p) >= q:
            raise BadTable(at)
        found.append((p, q))
    return tuple(found)


def numbers_of(many, table):
    """Return the table as a dict of its ratios by the pairs u < v, or raise what is wrong with the two."""
    pairs = pairs_of(count_of(many, MOST_TABLE))
    return {pair: told for pair, told in zip(pairs, entries_of(table, len(pairs)))}


def at_pair(numbers, u, v):
    """Return the entry of two unlike places."""
    return numbers[joined((u,), (v,))]


def cuts_by(numbers, x, u, w):
    """Return whether x cuts u from w in the table."""
    return x in (u, w) or at_pair(numbers, u, w) == times(at_pair(numbers, u, x), at_pair(numbers, x, w))


def need_few(web):
    """Raise TooMany for a web of too many places for a table."""
    if web.many > MOST_TABLE:
        raise TooMany(web.many, MOST_TABLE)


def table_of(web):
    """Return the table of the web."""
    need_few(web)
    told = means_by_lot(web)
    return tuple([told[pair] for pair in pairs_of(web.many)])


def entry(many, table, u, v):
    """Return the entry of two unlike places."""
    numbers = numbers_of(many, table)
    one, two = two_places(u, v, many)
    return at_pair(numbers, one, two)


def told_cut(many, table, x, u, w):
    """Return whether x cuts u from w in the table."""
    numbers = numbers_of(many, table)
    place = place_of(x, many)
    one, two = two_places(u, w, many)
    return cuts_by(numbers, place, one, two)


def falling(ratios):
    """Return the indexes of the ratios by falling size; of equal sizes the lesser index first."""
    tops, _ = over_common(ratios)
    return [at for _, at in sorted([(-abs(top), at) for at, top in enumerate(tops)])]


def told_between(many, table, u, w):
    """Return the row between two unlike places of the table."""
    numbers = numbers_of(many, table)
    one, two = two_places(u, w, many)
    middle = [x for x in range(many) if x not in (one, two) and cuts_by(numbers, x, one, two)]
    order = falling([at_pair(numbers, one, x) for x in middle])
    return (one,) + tuple([middle[at] for at in order]) + (two,)


def firm_of(many, uncut):
    """Return the firm lots as a tuple, the lesser first; uncut has the pairs u < v that no third place cuts."""
    found = [lot for lot in lots(many) if len(lot) > 1
             and all([(u, v) in uncut for u in lot for v in lot if u < v])]
    greatest = [lot for lot in found
                if not [other for other in found if other != lot and all([place in other for place in lot])]]
    return tuple(sorted(greatest))


def told_firm(many, table):
    """Return the firm lots of the table."""
    numbers = numbers_of(many, table)
    uncut = [(u, v) for u, v in numbers
             if not [x for x in range(many) if x not in (u, v) and cuts_by(numbers, x, u, v)]]
    return firm_of(many, uncut)


def firm_lots(web):
    """Return the firm lots of the web, by the cuts of its ways."""
    need_few(web)
    uncut = [(u, v) for u, v in pairs_of(web.many)
             if not [x for x in range(web.many) if x not in (u, v) and cuts(web, x, u, v)]]
    return firm_of(web.many, uncut)
