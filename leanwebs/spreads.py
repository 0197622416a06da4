"""Spreads: a chance for each saying, the same for a saying and its contrary."""

from leanwebs.errors import BadLot, BadPlace, BadRatio, BadSpread, NotWebs, TooMany
from leanwebs.lots import count_of, even_lot_of, is_place, lot_of, saying_of, sayings
from leanwebs.ratios import is_ratio, is_row, lowest, over, over_common, ratio_of, sign_of, sum_of, times
from leanwebs.sums import index_of_no, signed_sums, signs_of, weight_tops

MOST_SPREAD = 7


def places_told(rows):
    """Return the n from 1 to 7 for which rows has 2^n entries, or raise BadSpread."""
    if is_row(rows):
        for many in range(1, MOST_SPREAD + 1):
            if len(rows) == 1 << many:
                return many
    raise BadSpread(-1)


def chances_of(rows):
    """Return the rows of a spread as a tuple of ratios, or raise what is wrong with them."""
    for at, row in enumerate(rows):
        if not is_ratio(row) or sign_of(row) <= 0:
            raise BadSpread(at)
    found = tuple([ratio_of(row) for row in rows])
    for at, row in enumerate(found):
        if row != found[len(found) - 1 - at]:
            raise BadSpread(at)
    if sum_of(found) != (1, 1):
        raise BadSpread(-1)
    return found


def index_of(saying):
    """Return the index of the saying among all sayings."""
    return index_of_no([place for place, entry in enumerate(saying) if entry == -1], len(saying))


def changed(saying, places):
    """Return the saying with the signs at the places changed."""
    return tuple([-entry if place in places else entry for place, entry in enumerate(saying)])


class Spread:
    """A spread; rows has the chances of all sayings in order."""

    def __init__(self, rows):
        self.many = places_told(rows)
        self.rows = chances_of(rows)

    @classmethod
    def of(cls, web):
        """Return the spread of the chances of the web."""
        if web.many > MOST_SPREAD:
            raise TooMany(web.many, MOST_SPREAD)
        tops = weight_tops(web)
        bottom = sum(tops)
        return cls([lowest(top, bottom) for top in tops])

    def chance(self, saying):
        """Return the chance of the saying."""
        return self.rows[index_of(saying_of(saying, self.many))]

    def mean(self, lot):
        """Return the mean of the lot."""
        signs = signs_of(lot_of(lot, self.many), self.many)
        tops, bottom = over_common(self.rows)
        return lowest(sum([top * sign for top, sign in zip(tops, signs)]), bottom)

    def left_out(self, lot):
        """Return the spread without the places of the lot."""
        places = lot_of(lot, self.many)
        if len(places) == self.many:
            raise BadLot()
        kept = [place for place in range(self.many) if place not in places]
        tops, bottom = over_common(self.rows)
        sums = {}
        for said, top in zip(sayings(self.many), tops):
            rest = tuple([said[place] for place in kept])
            sums[rest] = sums.get(rest, 0) + top
        return Spread([lowest(sums[rest], bottom) for rest in sayings(len(kept))])

    def box(self, u, v, saying):
        """Return the box of two distinct places at the saying."""
        if not is_place(u, self.many) or not is_place(v, self.many) or u == v:
            raise BadPlace()
        said = saying_of(saying, self.many)
        if said[u] != said[v]:
            said = changed(said, (v,))
        alike = times(self.chance(said), self.chance(changed(said, (u, v))))
        unlike = times(self.chance(changed(said, (u,))), self.chance(changed(said, (v,))))
        return over(alike, unlike)

    def __eq__(self, other):
        return isinstance(other, Spread) and self.rows == other.rows


def mean_row(row, many, earlier):
    """Return a row of means as a tuple (lot, mean), or raise what is wrong with it."""
    if not is_row(row) or len(row) != 2:
        raise BadSpread(-1)
    lot, told = row
    found = even_lot_of(lot, many)
    if found in earlier:
        raise BadLot()
    value = ratio_of(told)
    if found == () and value != (1, 1):
        raise BadRatio()
    return (found, value)


def spread_of_means(many, rows):
    """Return the spread with these means and mean 0 for the other even lots, 1 for the empty one."""
    places = count_of(many, MOST_SPREAD)
    if not is_row(rows):
        raise BadSpread(-1)
    told = {}
    for row in rows:
        lot, value = mean_row(row, places, told)
        told[lot] = value
    told[()] = (1, 1)
    tops, bottom = over_common(list(told.values()))
    found = [0 for _ in range(1 << places)]
    for lot, top in zip(told, tops):
        found[index_of_no(lot, places)] = top
    # The spread itself raises BadSpread for the first chance that is not above 0.
    return Spread([lowest(top, bottom << places) for top in signed_sums(found)])


def pairs_of(many):
    """Return the list of all pairs of places u < v in ascending order."""
    return [(u, v) for u in range(many) for v in range(u + 1, many)]


def unlike_saying(spread, u, v):
    """Return the first saying with yes at u and v whose box differs from that of all yes, or None."""
    # A saying and its contrary have the same box, so no saying with no at u and v is needed.
    first = spread.box(u, v, [1 for _ in range(spread.many)])
    for said in sayings(spread.many):
        if said[u] == 1 and said[v] == 1 and spread.box(u, v, said) != first:
            return said
    return None


def unlike_boxes(spread):
    """Return None if the spread is a web's, else two places and two sayings whose boxes differ."""
    for u, v in pairs_of(spread.many):
        other = unlike_saying(spread, u, v)
        if other is not None:
            return (u, v, tuple([1 for _ in range(spread.many)]), other)
    return None


def is_webs(spread):
    """Return whether the spread is a web's."""
    return unlike_boxes(spread) is None


def squares(spread):
    """Return the box at all yes for each two places, or raise NotWebs."""
    found = unlike_boxes(spread)
    if found is not None:
        raise NotWebs(found[0], found[1])
    yes = [1 for _ in range(spread.many)]
    return tuple([((u, v), spread.box(u, v, yes)) for u, v in pairs_of(spread.many)])
