"""leanwebs.rims: points [80] and [96]."""

import itertools
import unittest
from fractions import Fraction

from leanwebs.errors import BadCount, BadLot, BadParting, BadRatio, BadRow, TooMany
from leanwebs.partings import smooth_partings
from leanwebs.rims import breaking_at_rims, holds_at_rims, is_rim_identity, rim_web
from leanwebs.rows import is_smooth
from leanwebs.webs import Web
from leanwebs.worths import OneSum, TwoSum
from tests.helper import (HALF, LEAN, NO_INTEGERS, NO_LISTS, NO_RATIOS, NOT_BELOW, Case, MyInt, MyList, Numbers,
                          all_partings, fraction, no_places, value_told)

NO_ROWS = NO_LISTS + tuple((1, place) for place in no_places(4)) + ((0, 0), [2, 1, 2], (0, 1, 2, 3, 3))
FOUR = TwoSum(4, (0, 1, 2, 3), [((), 1), ((0, 1), -1), ((0, 2), 1), ((0, 3), -1)])


def sum_in_row(numbers, many, row):
    """A one-sum or a two-sum whose lots lie in the row, its lot and its rows."""
    def even():
        lot = numbers.some(sorted(row))
        return lot[1:] if len(lot) % 2 else lot

    rows = [(even(), (numbers.below(7) - 3, 1 + numbers.below(3))) for _ in range(1 + numbers.below(4))]
    lot = even()
    if numbers.below(2):
        return OneSum(many, rows), (), rows
    return TwoSum(many, lot, rows), lot, rows


def rows_for(many):
    return [(), (many - 1,), tuple(range(many)), tuple(range(many))[::-1], tuple(range(1, many)),
            tuple(range(0, many, 2)) + tuple(range(1, many, 2))]


class TestHolds(Case):
    def test_against_all_values(self):
        broken = 0
        for seed in range(120):
            numbers, many = Numbers(seed), 1 + seed % 6
            for row in rows_for(many):
                one, lot, rows = sum_in_row(numbers, many, row)
                told = [(parting, value_told(lot, rows, parting)) for parting in smooth_partings(row)]
                wanted = next((parting for parting, value in told if value < 0), None)
                broken += wanted is not None
                self.same(breaking_at_rims(one, list(row)), wanted)
                self.same(holds_at_rims(one, row), wanted is None)
                self.same(is_rim_identity(one, row), all(value == 0 for _, value in told))
        self.assertGreater(broken, 100)

    def test_known(self):
        self.same((is_rim_identity(FOUR, (0, 1, 2, 3)), is_rim_identity(FOUR, (0, 2, 1, 3))), (True, False))
        self.same(breaking_at_rims(-FOUR, (0, 2, 1, 3)), ((0, 2), (1, 3)))
        self.same((holds_at_rims(FOUR, [0, 2, 1, 3]), holds_at_rims(-FOUR, [0, 2, 1, 3])), (True, False))
        self.same((holds_at_rims(FOUR, (3, 0, 1, 2)), holds_at_rims(-FOUR, (3, 0, 1, 2))), (True, True))
        one = OneSum(3, [((), -1)])
        self.same((breaking_at_rims(one, ()), breaking_at_rims(one, [2]), is_rim_identity(OneSum(3, []), ())),
                  ((), ((2,),), True))

    def test_smooth_webs(self):
        count = 0
        for at, web in enumerate(NOT_BELOW + LEAN[:14]):
            numbers = Numbers(at)
            for row in rows_for(web.many):
                if is_smooth(web, row):
                    for _ in range(4):
                        one, _, _ = sum_in_row(numbers, web.many, row)
                        worth = one.worth(web)
                        if holds_at_rims(one, row):
                            self.assertGreaterEqual(worth[0], 0)
                            count += 1
                        if is_rim_identity(one, row):
                            self.assertEqual(worth, (0, 1))
        self.assertGreater(count, 40)

    def test_wrong(self):
        for call in (holds_at_rims, breaking_at_rims, is_rim_identity):
            for row in NO_ROWS:
                self.raises(BadRow(), call, FOUR, row)
            for row in ((), (0, 1, 2), [3, 1]):
                self.raises(BadLot(), call, FOUR, row)
            self.raises(BadLot(), call, TwoSum(5, (0, 1), [((2, 3), 1)]), (0, 1, 2))
            self.raises(BadLot(), call, TwoSum(5, (0, 4), [((2, 3), 1)]), (0, 1, 2, 3))
            self.raises(BadLot(), call, OneSum(5, [((2, 3), 1)]), (0, 1, 2))
            call(OneSum(5, [((2, 3), 1), ((2, 3), -1), ((0, 1), 0), ((), 1)]), ())
            call(OneSum(5, [((2, 3), 1)]), MyList([MyInt(3), 2]))


class TestRimWeb(Case):
    def test_values(self):
        for many, row in ((1, ()), (1, (0,)), (3, (2, 0, 1)), (4, (1, 3)), (5, (4, 2, 0, 3, 1)), (6, (5, 1, 2, 4, 3))):
            for parting in smooth_partings(row):
                web = rim_web(many, list(row), [list(block[::-1]) for block in parting[::-1]], [2, 4])
                wanted = []
                for block in parting:
                    ordered = sorted(block, key=row.index)
                    wanted += [(u, v, HALF) for u, v in zip(ordered, ordered[1:])]
                self.same((web.many, web.ties), (many, tuple(wanted)))
                self.assertTrue(is_smooth(web, row))

    def test_known(self):
        web = rim_web(5, (3, 0, 4, 1), ((0, 1, 4), (3,)), (3, 4))
        self.same(web.ties, ((0, 4, (3, 4)), (4, 1, (3, 4))))
        self.same(rim_web(2, (1, 0), ((0, 1),), 0).ties, ((1, 0, (0, 1)),))
        self.same(rim_web(MyInt(3), (), (), HALF).shape, (3, ()))
        web = rim_web(10, tuple(range(9, -1, -1)), (tuple(range(10)),), HALF)
        self.same(web.ties, tuple((k, k - 1, HALF) for k in range(9, 0, -1)))

    def test_near_the_value(self):
        for seed in range(30):
            numbers, many = Numbers(seed), 2 + seed % 4
            row = tuple(range(many))[::-1]
            one, lot, rows = sum_in_row(numbers, many, row)
            size = sum(abs(fraction(told)) for _, told in one.rows)
            for parting in smooth_partings(row):
                for k in (0, 1, 4, 10):
                    worth = fraction(one.worth(rim_web(many, row, parting, (2 ** k - 1, 2 ** k))))
                    gap = abs(worth - value_told(lot, rows, parting))
                    self.assertLessEqual(gap, Fraction(2 * (many - 1)) * size / 2 ** k)

    def test_crossing_in_long_rows(self):
        for row in (tuple(range(10)), tuple(range(9, -1, -1)), (0, 5, 1, 6, 2, 7, 3, 8, 4, 9)):
            for pairs in itertools.combinations(range(10), 4):
                a, b, c, d = sorted(pairs, key=row.index)
                rest = [(place,) for place in range(10) if place not in pairs]
                self.raises(BadParting(), rim_web, 10, row, [(a, c), (b, d)] + rest, None)
                self.same(len(rim_web(10, row, [(a, d), (b, c)] + rest, 0).ties), 2)

    def test_wrong(self):
        for many in NO_INTEGERS + (0, -1):
            self.raises(BadCount(), rim_web, many, None, None, None)
        self.raises(TooMany(11, 10), rim_web, 11, None, None, None)
        for row in NO_ROWS:
            self.raises(BadRow(), rim_web, 4, row, None, None)
        crossing = [one for one in all_partings(range(4)) if one not in smooth_partings((0, 1, 2, 3))]
        self.assertEqual(crossing, [((0, 2), (1, 3))])
        for parting in NO_LISTS + (((0, 1),), ((0, 1, 2), (3,), ()), ((0, 1, 2, 3, 4),), ((0, 2), (2, 1, 3)), crossing[0]):
            self.raises(BadParting(), rim_web, 4, (0, 1, 2, 3), parting, None)
        for pull in NO_RATIOS + (1, (2, 2), (-1, 3), [7, 5]):
            self.raises(BadRatio(), rim_web, 4, (0, 1, 2, 3), ((0, 1, 2, 3),), pull)


if __name__ == "__main__":
    unittest.main()
