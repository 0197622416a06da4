"""leanwebs.stretches: points [35] to [37]."""

import inspect
import itertools
import unittest
from fractions import Fraction

from leanwebs.errors import BadLot, BadRatio, BadStretch, OddLot, TooMany
from leanwebs.ratios import ratio_of
from leanwebs.stretches import Stretches, corners, ends, holds_within
from leanwebs.webs import Web
from tests.helper import (HALF, MIXED, NO_LISTS, NO_NUMBERS, NO_RATIOS, WIDE, Case, MyInt, MyList, MyTuple, Numbers,
                          all_even, all_sayings, all_subsets, fraction, means_told, ratio)

METHODS = (Stretches.agrees, Stretches.lows, Stretches.highs, Stretches.sizes_low, Stretches.sizes_high)


def stretches_for(web, seed, most=4):
    """Stretches of all signs, at most so many of which move."""
    numbers = Numbers(seed)
    rows = []
    for number in range(len(web)):
        one, other = numbers.pull(-1), numbers.pull(-1)
        if number >= most or not numbers.below(4):
            other = one
        rows.append(sorted((one, other), key=fraction))
    return Stretches(rows)


def rows_for(web, seed):
    numbers = Numbers(seed)
    return [(numbers.even(web.many)[::-1], [numbers.below(9) - 4, 2]) for _ in range(numbers.below(5))]


def corners_told(web, stretches):
    moving = [k for k, (low, high) in enumerate(stretches.rows) if low != high]
    return [(bundle, Web(web.many, [(u, v, stretches.rows[k][1 if k in bundle else 0])
                                    for k, (u, v, _) in enumerate(web.ties)]))
            for bundle in all_subsets(moving)]


def worth_told(web, rows):
    told = means_told(web)
    return sum((Fraction(*ratio_of(x)) * told[tuple(sorted(lot))] for lot, x in rows), Fraction(0))


def samples():
    return [(web, stretches_for(web, seed), rows_for(web, seed)) for seed, web in enumerate(MIXED)]


class TestMaking(Case):
    def test_rows(self):
        told = Stretches([[(2, 8), [3, 6]], (0, (1, 2)), [0, 0], ((-4, 5), (-2, 4)), ((-1, 2), 0)])
        self.same(told.rows, (((1, 4), (1, 2)), ((0, 1), (1, 2)), ((0, 1), (0, 1)), ((-4, 5), (-1, 2)),
                              ((-1, 2), (0, 1))))
        self.same(Stretches([]).rows, ())
        self.same(Stretches(()).rows, ())
        self.same(Stretches([((1, 9), HALF)] * 30).rows, (((1, 9), (1, 2)),) * 30)

    def test_kinds(self):
        told = Stretches(MyList([MyTuple([MyInt(0), MyList([MyInt(1), MyInt(2)])])]))
        self.same(told.rows, (((0, 1), (1, 2)),))

    def test_later_changes(self):
        rows = [[[0, 1], [1, 2]]]
        told = Stretches(rows)
        rows[0][1][0] = 0
        rows.append(0)
        self.same(told.rows, (((0, 1), (1, 2)),))

    def test_wrong(self):
        for rows in NO_LISTS:
            self.raises(BadStretch(-1), Stretches, rows)
        wrong = [None, 0, "ab", {0: 0, 1: 1}, (), (0,), (0, 0, 0), [HALF], (HALF, (1, 3)), (0, (-1, 5)), (-1, 0),
                 ((-3, 3), 0), (0, 1), (HALF, (5, 5)), ((-3, 2), 0), (0, 2), (-5, 5), 1]
        wrong += [(value, HALF) for value in NO_RATIOS] + [[(-1, 2), value] for value in NO_RATIOS]
        for row in wrong:
            self.raises(BadStretch(0), Stretches, [row])
            self.raises(BadStretch(2), Stretches, ((0, 0), [0, HALF], row, None))


class TestMethods(Case):
    def test_agrees(self):
        for web, told, _ in samples():
            inside = all(fraction(low) <= fraction(t) <= fraction(high)
                         for (low, high), (_, _, t) in zip(told.rows, web.ties))
            self.same(told.agrees(web), inside)
        told = Stretches([((-1, 2), HALF), (0, 0)])
        pulls = ((-1, 2), HALF, 0, (-2, 3), (2, 3), (1, 3), (-500001, 1000000))
        self.same([told.agrees(Web.line(t, 0)) for t in pulls], [True, True, True, False, False, True, False])
        self.same(told.agrees(Web.line(0, (1, 100))), False)
        self.same(told.agrees(Web(1, [(0, 0, 0), (0, 0, 0)])), True)
        self.same(Stretches([]).agrees(Web(3, [])), True)

    def test_ends_of_stretches(self):
        for web, told, _ in samples():
            for found, at in ((told.lows(web), 0), (told.highs(web), 1)):
                self.same(found.shape, web.shape)
                self.same([t for _, _, t in found.ties], [row[at] for row in told.rows])

    def test_sizes(self):
        rows = [((-1, 2), (1, 3)), ((-1, 3), HALF), ((-1, 2), HALF), (HALF, (2, 3)), ((-2, 3), (-1, 2)), (0, HALF),
                ((-1, 2), 0), (0, 0), ((-1, 2), (-1, 2)), (HALF, HALF)]
        web = Web(2, [(0, 1, 0)] * 10)
        told = Stretches(rows)
        zero, half, less = (0, 1), (1, 2), (-1, 2)
        self.same([t for _, _, t in told.sizes_low(web)],
                  [zero, zero, zero, half, less, zero, zero, zero, less, half])
        self.same([t for _, _, t in told.sizes_high(web)],
                  [less, half, half, (2, 3), (-2, 3), half, less, zero, less, half])
        self.same(told.sizes_low(web).shape, web.shape)

    def test_number_of_rows(self):
        for rows, web in (([], WIDE), ([(0, 0)], Web(2, [])), ([(0, 0)], Web.line(0, 0)), ([(0, HALF)] * 11, WIDE)):
            told = Stretches(rows)
            for call in METHODS:
                self.raises(BadStretch(-1), call, told, web)
            self.raises(BadStretch(-1), next, corners(web, told))
            for call in (ends, holds_within):
                self.raises(BadStretch(-1), call, web, told, [None])


class TestCorners(Case):
    def test_corners(self):
        for web, told, _ in samples():
            found = list(corners(web, told))
            self.same([bundle for bundle, _ in found], [bundle for bundle, _ in corners_told(web, told)])
            self.assertEqual(found, corners_told(web, told))
            for row in found:
                self.assertIs(type(row), tuple)
                self.assertTrue(told.agrees(row[1]))

    def test_order(self):
        told = Stretches([(0, HALF), (0, 0), (0, HALF), ((-1, 2), 0)])
        self.same([bundle for bundle, _ in corners(Web.line(0, 0, 0, 0), told)],
                  [(), (0,), (2,), (3,), (0, 2), (0, 3), (2, 3), (0, 2, 3)])

    def test_no_moving_tie(self):
        told = Stretches([(HALF, HALF), (0, 0)])
        self.assertEqual(list(corners(Web.line(0, (1, 9)), told)), [((), Web.line(HALF, 0))])
        self.assertEqual(list(corners(Web(3, []), Stretches([]))), [((), Web(3, []))])

    def test_nine_and_ten(self):
        nine = Stretches([(0, HALF)] * 9 + [(HALF, [2, 4])])
        found = [bundle for bundle, _ in corners(WIDE, nine)]
        self.assertEqual(found, all_subsets(range(9)))
        ten = Stretches([(0, HALF)] * 10)
        made = corners(WIDE, ten)
        self.assertTrue(inspect.isgenerator(made))
        self.raises(TooMany(10, 9), next, made)
        for call in (ends, holds_within):
            self.raises(TooMany(10, 9), call, WIDE, ten, [None])


class TestEnds(Case):
    def test_example(self):
        told = Stretches([((1, 4), (1, 2)), (0, (1, 2))])
        self.same(ends(Web.line(0, 0), told, [((0, 2), 1), ((0, 1), -1)]), ((-1, 2), (0,), (-1, 8), (1,)))

    def test_ends(self):
        for web, told, rows in samples():
            found = [(worth_told(corner, rows), bundle) for bundle, corner in corners_told(web, told)]
            least, greatest = min(worth for worth, _ in found), max(worth for worth, _ in found)
            wanted = (ratio(least), next(bundle for worth, bundle in found if worth == least),
                      ratio(greatest), next(bundle for worth, bundle in found if worth == greatest))
            self.same(ends(web, told, rows), wanted)
            self.same(ends(web, told, tuple(tuple(row) for row in rows)), wanted)
            self.same(holds_within(web, told, rows), least >= 0)

    def test_lots_more_than_once(self):
        told = Stretches([(0, HALF)])
        rows = [((0, 1), 1), ([1, 0], [4, 2]), ((), (1, 3)), ((), -1)]
        self.same(ends(Web.line(0), told, rows), ((-2, 3), (), (5, 6), (0,)))

    def test_first_corner(self):
        told = Stretches([(0, HALF), ((-1, 2), HALF)])
        self.same(ends(Web.line(0, 0), told, []), ((0, 1), (), (0, 1), ()))
        self.same(ends(Web.line(0, 0), told, [((1, 2), 1)]), ((-1, 2), (), (1, 2), (1,)))
        self.same(ends(Web.line(0, 0), told, [((0, 1), -1)]), ((-1, 2), (0,), (0, 1), ()))

    def test_just_zero(self):
        told = Stretches([(0, HALF)])
        self.same(holds_within(Web.line(0), told, [((0, 1), 1)]), True)
        self.same(holds_within(Web.line(0), told, [((0, 1), 1), ((), (-1, 10 ** 30))]), False)
        self.same(holds_within(Web.line(0), told, [((0, 1), -1), ((), HALF)]), True)
        self.same(holds_within(Web.line(0), told, [((0, 1), -1), ((), (49, 100))]), False)
        self.same(holds_within(Web.line(0), told, ()), True)

    def test_between_the_corners(self):
        for web, told, rows in samples():
            least, _, greatest, _ = ends(web, told, rows)
            for k in range(4):
                pulls = [(fraction(low) * k + fraction(high) * (3 - k)) / 3 if at % 2 else
                         (fraction(low) + fraction(high)) / 2 for at, (low, high) in enumerate(told.rows)]
                inner = Web(web.many, [(u, v, ratio(t)) for (u, v, _), t in zip(web.ties, pulls)])
                self.assertTrue(told.agrees(inner))
                self.assertTrue(fraction(least) <= worth_told(inner, rows) <= fraction(greatest))

    def test_wide(self):
        told = Stretches([((-1, 3), HALF)] * 9 + [(HALF, HALF)])
        rows = [((0, 9), 1), ((1, 2, 3, 4), (-1, 2)), ((0, 1, 2, 3, 4, 5, 6, 7), 3)]
        least, first, greatest, last = ends(WIDE, told, rows)
        for worth, bundle in ((least, first), (greatest, last)):
            corner = Web(10, [(u, v, HALF if k in bundle or k == 9 else (-1, 3))
                              for k, (u, v, _) in enumerate(WIDE.ties)])
            self.same(worth, ratio(worth_told(corner, rows)))
        self.assertLess(fraction(least), fraction(greatest))

    def test_wrong(self):
        told, web = Stretches([(0, HALF)]), Web(3, [(0, 1, 0)])
        for call in (ends, holds_within):
            for lot in NO_NUMBERS + ((3,), (0, 3)):
                self.raises(BadLot(), call, web, told, [((0, 1), 1), (lot, None)])
            for lot in ((0,), [2, 1, 0]):
                self.raises(OddLot(), call, web, told, [((0, 1), 1), [lot, None]])
            for value in NO_RATIOS:
                self.raises(BadRatio(), call, web, told, [((0, 1), value), (None, None)])


class TestBounds(Case):
    """Point [37]."""

    def test_not_below(self):
        rows = [[(0, HALF), ((1, 4), (2, 3)), ((1, 5), (1, 5)), (0, 0), ((1, 3), HALF), (0, (3, 4))]] * 2
        for web in (Web(5, [(0, 1, 0), (1, 2, 0), (2, 0, 0), (3, 4, 0), (3, 2, 0), (4, 0, 0)]),
                    Web(4, [(0, 1, 0), (1, 0, 0), (2, 2, 0), (2, 3, 0), (3, 1, 0), (0, 3, 0)])):
            told = Stretches(rows[0])
            low, high = means_told(told.lows(web)), means_told(told.highs(web))
            for _, corner in corners(web, told):
                found = means_told(corner)
                for lot in all_even(web.many):
                    self.assertTrue(low[lot] <= found[lot] <= high[lot])

    def test_sizes_with_a_saying(self):
        for seed, said in enumerate(all_sayings(4)[:8]):
            web = Web(4, [(0, 1, 0), (1, 2, 0), (2, 3, 0), (3, 0, 0), (0, 2, 0), (1, 1, 0)])
            numbers, rows = Numbers(seed), []
            for u, v, _ in web.ties:
                pair = sorted([numbers.pull(0), numbers.pull(0)], key=fraction)
                if said[u] != said[v]:
                    pair = [(-pair[1][0], pair[1][1]), (-pair[0][0], pair[0][1])]
                rows.append(pair)
            rows[5] = ((-1, 2), HALF)
            told = Stretches(rows)
            low, high = means_told(told.sizes_low(web)), means_told(told.sizes_high(web))
            for _, corner in itertools.islice(corners(web, told), 20):
                found = means_told(corner)
                for lot in all_even(4):
                    self.assertTrue(abs(low[lot]) <= abs(found[lot]) <= abs(high[lot]))


if __name__ == "__main__":
    unittest.main()
