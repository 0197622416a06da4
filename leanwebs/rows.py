"""Rows of places: crossing fours, signed pairings, offs, and the chances of what rows say."""

from leanwebs.blockweights import block_weights
from leanwebs.doubled import need_doubled
from leanwebs.errors import BadLot, BadSaying, BadTable, OddLot
from leanwebs.given import means_by_lot, need_small, row_of
from leanwebs.lots import is_saying, joined, lot_of, sayings, subsets
from leanwebs.ratios import is_ratio, is_row, lowest, over_common, plus, ratio_of, sum_of, times
from leanwebs.sums import weight_tops
from leanwebs.ways import first_apart


def lot_of_row(lot, row, many):
    """Return the lot as a tuple in the order of the row; BadLot if it is none or has a place outside the row."""
    places = lot_of(lot, many)
    if not all([place in row for place in places]):
        raise BadLot()
    return tuple([place for place in row if place in places])


def even_of_row(lot, row, many):
    """Return the lot as lot_of_row does; BadLot if it is empty, OddLot if it is odd."""
    found = lot_of_row(lot, row, many)
    if not found:
        raise BadLot()
    if len(found) & 1:
        raise OddLot()
    return found


def first_crossing(web, row):
    """Return the first four places of the row that cross, or None."""
    for a, b, c, d in [chosen for chosen in subsets(list(range(len(row)))) if len(chosen) == 4]:
        if first_apart(web, (row[a], row[c]), (row[b], row[d])) is not None:
            return (row[a], row[b], row[c], row[d])
    return None


def crossing_four(web, row):
    """Return the first four places of the row that cross, in its order, or None."""
    need_small(web)
    return first_crossing(web, row_of(row, web.many))


def is_smooth(web, row):
    """Return whether no four places of the row cross."""
    return crossing_four(web, row) is None


def table_of_row(told, row):
    """Return the table of the means of the pairs of a row, told being the means by lot."""
    return tuple([tuple([told[joined((u,), (v,))] for v in row[at + 1:]]) for at, u in enumerate(row)])


def pair_means(web, row):
    """Return the means of the pairs of the row, one tuple for each place of it."""
    places = row_of(row, web.many)
    return table_of_row(means_by_lot(web), places)


def pairings_sum(table):
    """Return the signed pairings of a table of ratios in lowest terms."""
    bottom = over_common([entry for row in table for entry in row])[1]
    tops = [[p * (bottom // q) for p, q in row] for row in table]
    # The first of the numbers that are left is paired with each other one. Pairs that cross this pair have one end
    # between its two numbers; pairs with both ends there do not, and do not change whether these are even in number.
    sums = {tuple(range(len(tops))): 1}
    power = 1
    for _ in range(len(tops) // 2):
        found = {}
        for left, top in sums.items():
            for at in range(1, len(left)):
                rest = left[1:at] + left[at + 1:]
                number = top * tops[left[0]][left[at] - left[0] - 1]
                found[rest] = found.get(rest, 0) + (number if at & 1 else -number)
        sums = found
        power = power * bottom
    return lowest(sums.get((), 0), power)


def is_table_row(row, many):
    """Return whether row is a tuple or list of so many ratios."""
    return is_row(row) and len(row) == many and all([is_ratio(entry) for entry in row])


def signed_pairings(table):
    """Return the signed pairings of a table; row i has the numbers m(i, j) for all j above i."""
    if not is_row(table):
        raise BadTable(-1)
    for at, row in enumerate(table):
        if not is_table_row(row, len(table) - at - 1):
            raise BadTable(at)
    return pairings_sum([[ratio_of(entry) for entry in row] for row in table])


def pairings_of(web, row, lot):
    """Return the signed pairings of the means of the pairs of a lot of the row."""
    places = row_of(row, web.many)
    return pairings_sum(table_of_row(means_by_lot(web), lot_of_row(lot, places, web.many)))


def off(web, row, lot):
    """Return the off of an even lot of the row that is not empty."""
    places = even_of_row(lot, row_of(row, web.many), web.many)
    told = means_by_lot(web)
    whole = tuple(sorted(places))
    terms = [times(-1, told[whole])]
    for at in range(1, len(places)):
        pair = joined((places[0],), (places[at],))
        # Place number i, counted from 1, is at the index i - 1.
        terms.append(times(1 if at & 1 else -1, times(told[pair], told[joined(whole, pair)])))
    return sum_of(terms)


def block_count(parting, places):
    """Return c(x) for a parting x of places that stand in the order of their row."""
    found = [block for block in parting if places[0] in block]
    return sum([1 if at & 1 else -1 for at in range(1, len(places)) if places[at] in found[0]])


def off_by_blocks(web, row, lot):
    """Return the off of the lot as a sum over its block weights."""
    need_doubled(web)
    places = even_of_row(lot, row_of(row, web.many), web.many)
    return sum_of([times(block_count(parting, places) - 1, weight) for parting, weight in block_weights(web, lot)])


def said_of_row(row, said, many):
    """Return the row and what its places say as two tuples, or raise what is wrong with them."""
    places = row_of(row, many)
    if not is_saying(said, len(places), len(places)):
        raise BadSaying()
    return (places, tuple([int(entry) for entry in said]))


def row_chance(web, row, said):
    """Return the chance that the places of the row say just this."""
    places, entries = said_of_row(row, said, web.many)
    tops = weight_tops(web)
    found = [top for saying, top in zip(sayings(web.many), tops)
             if all([saying[place] == entry for place, entry in zip(places, entries)])]
    return lowest(sum(found), sum(tops))


def row_by_pairing(web, row, said):
    """Return the chance that row_chance gives for a smooth row, told by signed pairings."""
    places, entries = said_of_row(row, said, web.many)
    signed = [[times(entries[at] * entries[at + 1 + step], told) for step, told in enumerate(part)]
              for at, part in enumerate(table_of_row(means_by_lot(web), places))]
    if len(places) & 1:
        signed = [part + [(0, 1)] for part in signed] + [[]]
    # Of neighbours in the row, the number to add is 1; from there on it changes its sign at each step.
    table = [[plus(-1 if step & 1 else 1, told) for step, told in enumerate(part)] for part in signed]
    return times(pairings_sum(table), (1, 1 << len(places)))
