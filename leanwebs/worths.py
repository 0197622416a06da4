"""Sums of means, and of products of two means, and their worths and values."""

from leanwebs.clusters import is_even_in
from leanwebs.doubled import weights_seen
from leanwebs.errors import BadCount, BadTable
from leanwebs.given import means_by_lot
from leanwebs.lots import count_of, even_lot_of, joined, parting_of, saying_of
from leanwebs.odds import need_like_shapes
from leanwebs.ratios import lowest, over_common, plus, ratio_of, sum_of, times
from leanwebs.spreads import index_of
from leanwebs.sums import index_of_no, signed_sums

MOST_SUM = 6


def cleared(rows, many):
    """Return the cleared rows as a tuple of tuples (lot, ratio), or raise what is wrong with the rows."""
    sums = {}
    for lot, ratio in rows:
        found = even_lot_of(lot, many)
        sums[found] = plus(sums.get(found, (0, 1)), ratio)
    order = sorted([(len(lot), lot) for lot in sums])
    return tuple([(lot, sums[lot]) for _, lot in order if sums[lot] != (0, 1)])


def scaled(rows, factor):
    """Return the list of the rows with all ratios multiplied by the factor."""
    return [(lot, times(factor, told)) for lot, told in rows]


def need_many(one, web):
    """Raise BadCount unless the web has as many places as the sum."""
    if web.many != one.many:
        raise BadCount()


def need_like(one, other):
    """Raise BadTable unless two sums of one class have the same number of places and the same lot."""
    if one.many != other.many or one.lot != other.lot:
        raise BadTable(-1)


def worth_of(one, left, right):
    """Return the worth of the sum, left being the means by lot at its first web, right those at its second one."""
    return sum_of([times(told, times(left[joined(one.lot, lot)], right[lot])) for lot, told in one.rows])


def rows_even_in(one, parting):
    """Return the list of the rows that count at a parting; none if the lot of the sum is not even in it."""
    if not is_even_in(one.lot, parting):
        return []
    return [(lot, told) for lot, told in one.rows if is_even_in(lot, parting)]


def value_of(one, parting):
    """Return the value of the sum at a parting that is in the form of one."""
    return sum_of([told for _, told in rows_even_in(one, parting)])


def values_of(one, parting):
    """Return the list of the values of the sum at the parting and all sayings, in order."""
    rows = rows_even_in(one, parting)
    tops, bottom = over_common([told for _, told in rows])
    found = [0 for _ in range(1 << one.many)]
    for (lot, _), top in zip(rows, tops):
        found[index_of_no(lot, one.many)] = top
    return [lowest(top, bottom) for top in signed_sums(found)]


def parting_of_sum(one, parting):
    """Return the parting of all places of the sum; BadParting if it is none."""
    return parting_of(parting, tuple(range(one.many)))


class Sum:
    """A sum with a lot and rows (lot, ratio); only its subclasses are meant to be called."""

    def __init__(self, many, lot, rows):
        self.many = count_of(many, MOST_SUM)
        self.lot = even_lot_of(lot, self.many)
        self.rows = cleared(rows, self.many)

    def __len__(self):
        return len(self.rows)


class OneSum(Sum):
    """The sum of c*<B> over the rows (B, c)."""

    def __init__(self, many, rows):
        super().__init__(many, (), rows)

    def __len__(self):
        return len(self.rows)

    def __add__(self, other):
        if not isinstance(other, OneSum):
            raise BadTable(-1)
        need_like(self, other)
        return OneSum(self.many, self.rows + other.rows)

    def __neg__(self):
        return OneSum(self.many, scaled(self.rows, -1))

    def __mul__(self, other):
        factor = ratio_of(other)
        return OneSum(self.many, scaled(self.rows, factor))

    def __eq__(self, other):
        return isinstance(other, OneSum) and self.many == other.many and self.rows == other.rows

    def worth(self, web):
        """Return the worth of the sum at the web."""
        need_many(self, web)
        told = means_by_lot(web)
        return worth_of(self, {lot: (1, 1) for lot in told}, told)

    def at_parting(self, parting):
        """Return the value of the sum at a parting of all places."""
        return value_of(self, parting_of_sum(self, parting))


class TwoSum(Sum):
    """The sum of c*<B>*<A + B> over the rows (B, c), A being the lot."""

    def __init__(self, many, lot, rows):
        super().__init__(many, lot, rows)

    def __len__(self):
        return len(self.rows)

    def __add__(self, other):
        if not isinstance(other, TwoSum):
            raise BadTable(-1)
        need_like(self, other)
        return TwoSum(self.many, self.lot, self.rows + other.rows)

    def __neg__(self):
        return TwoSum(self.many, self.lot, scaled(self.rows, -1))

    def __mul__(self, other):
        factor = ratio_of(other)
        return TwoSum(self.many, self.lot, scaled(self.rows, factor))

    def __eq__(self, other):
        return (isinstance(other, TwoSum) and self.many == other.many and self.lot == other.lot
                and self.rows == other.rows)

    def worth(self, web):
        """Return the worth of the sum at the web."""
        need_many(self, web)
        told = means_by_lot(web)
        return worth_of(self, told, told)

    def at_parting(self, parting):
        """Return the value of the sum at a parting of all places."""
        return value_of(self, parting_of_sum(self, parting))

    def by_weights(self, web):
        """Return the worth of the sum at the web, told by the weights of its lot seen at all places."""
        need_many(self, web)
        seen = weights_seen(web, self.lot, tuple(range(self.many)))
        return sum_of([times(weight, value_of(self, parting)) for parting, weight in seen])


class PairSum(Sum):
    """The sum of c*<A + B>*<B> over the rows (B, c), <A + B> at a first and <B> at a second web."""

    def __init__(self, many, lot, rows):
        super().__init__(many, lot, rows)

    def __len__(self):
        return len(self.rows)

    def __add__(self, other):
        if not isinstance(other, PairSum):
            raise BadTable(-1)
        need_like(self, other)
        return PairSum(self.many, self.lot, self.rows + other.rows)

    def __neg__(self):
        return PairSum(self.many, self.lot, scaled(self.rows, -1))

    def __mul__(self, other):
        factor = ratio_of(other)
        return PairSum(self.many, self.lot, scaled(self.rows, factor))

    def __eq__(self, other):
        return (isinstance(other, PairSum) and self.many == other.many and self.lot == other.lot
                and self.rows == other.rows)

    def worth(self, web, other):
        """Return the worth of the sum at the two webs."""
        need_many(self, web)
        need_like_shapes(web, other)
        return worth_of(self, means_by_lot(web), means_by_lot(other))

    def at_parting(self, parting, saying):
        """Return the value of the sum at a parting of all places and a saying."""
        blocks = parting_of_sum(self, parting)
        said = saying_of(saying, self.many)
        return values_of(self, blocks)[index_of(said)]
