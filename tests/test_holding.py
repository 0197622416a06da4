"""leanwebs.holding: points [93] to [95], [98] and [99]."""

import unittest
from fractions import Fraction

from leanwebs.balance import signs_saying
from leanwebs.cutsums import cut_sum, is_cut
from leanwebs.errors import BadCount, TooMany
from leanwebs.excess import excess
from leanwebs.halves import odd_halving
from leanwebs.holding import breaking, breaking_web, holds, is_identity, least_power, never_zero
from leanwebs.partings import glued_web, hanging_partings
from leanwebs.pieces import hangs
from leanwebs.stretches import Stretches, corners
from leanwebs.sums import mean
from leanwebs.webs import Web
from leanwebs.worths import OneSum, PairSum, TwoSum
from tests.helper import (HALF, LEAN, MIXED, NOT_BELOW, Case, Numbers, all_even, all_sayings, fraction, hangs_told,
                          joined_lots, parts_of, some_rows, value_told)

RING = Web.ring(HALF, HALF, HALF)
SHAPES = tuple(web for web in MIXED + NOT_BELOW + LEAN[:14] if web.many <= 4)


def sums_for(web, seed):
    """A one-sum, a two-sum and a pair-sum of the web's places, with their lots and rows."""
    numbers = Numbers(seed)
    lot, rows = numbers.even(web.many), some_rows(numbers, web.many, 1 + numbers.below(4))
    if seed % 2:
        rows.append([[], [numbers.below(4), 1]])
    return ((OneSum(web.many, rows), (), rows), (TwoSum(web.many, lot, rows), lot, rows),
            (PairSum(web.many, lot, rows), lot, rows))


def values(one, lot, rows, web):
    """All values at hanging partings, in order, as tuples (where, value)."""
    if isinstance(one, PairSum):
        return [((parting, saying), value_told(lot, rows, parting, saying)) for parting in hanging_partings(web)
                for saying in all_sayings(web.many)]
    return [(parting, value_told(lot, rows, parting)) for parting in hanging_partings(web)]


def agreeing(numbers, web):
    """A web of the shape without pulls below 0, and one with pulls at most in size of those."""
    one = Web(web.many, [(u, v, numbers.pull(0)) for u, v, _ in web.ties])
    return one, Web(web.many, [(u, v, (t[0] * (numbers.below(5) - 2), t[1] * 2)) for u, v, t in one.ties])


def near_webs(one, web, where, k):
    """The near web of a breaking and k, for a pair-sum the two of them."""
    pull = (2 ** k - 1, 2 ** k)
    if not isinstance(one, PairSum):
        return (glued_web(web, where, pull),)
    near = glued_web(web, where[0], pull)
    return (near, near.turned([place for place, entry in enumerate(where[1]) if entry == -1]))


def least_told(one, web, where):
    k = 1
    while one.worth(*near_webs(one, web, where, k))[0] >= 0:
        k += 1
    return k


class TestValuesDecide(Case):
    def test_against_all_values(self):
        for at, web in enumerate(SHAPES):
            for seed in range(at, at + 120, 30):
                for one, lot, rows in sums_for(web, seed):
                    told = values(one, lot, rows, web)
                    wanted = next((where for where, value in told if value < 0), None)
                    self.same(breaking(one, web), wanted)
                    self.same(holds(one, web), wanted is None)
                    self.same(is_identity(one, web), all(value == 0 for _, value in told))
                    if not isinstance(one, PairSum):
                        self.same(never_zero(one, web), any(value > 0 for _, value in told))

    def test_six_and_five_places(self):
        for web in LEAN[-2:]:
            for one, lot, rows in sums_for(web, 5)[:2] + sums_for(web, 8)[:2]:
                wanted = next((where for where, value in values(one, lot, rows, web) if value < 0), None)
                self.same(breaking(one, web), wanted)
        for web in LEAN[14:17]:
            for one, lot, rows in (sums_for(web, 5)[2], sums_for(web, 9)[2]):
                wanted = next((where for where, value in values(one, lot, rows, web) if value < 0), None)
                self.same(breaking(one, web), wanted)

    def test_what_holds_is_not_below_zero(self):
        count = 0
        for at, web in enumerate(SHAPES):
            numbers = Numbers(at)
            for seed in range(at, at + 120, 30):
                for one, _, _ in sums_for(web, seed):
                    if holds(one, web):
                        first, second = agreeing(numbers, web)
                        worth = one.worth(first, second) if isinstance(one, PairSum) else one.worth(first)
                        self.assertGreaterEqual(worth[0], 0)
                        self.assertTrue(worth[0] == 0 or not is_identity(one, web))
                        count += 1
        self.assertGreater(count, 100)

    def test_only_the_shape_matters(self):
        for at, web in enumerate(SHAPES):
            other = agreeing(Numbers(at), web)[0]
            for one, _, _ in sums_for(web, at):
                self.assertEqual((breaking(one, web), is_identity(one, web), breaking_web(one, web)),
                                 (breaking(one, other), is_identity(one, other), breaking_web(one, other)))

    def test_one_positive_web_tells(self):
        for at, web in enumerate(LEAN[:14]):
            for seed in range(at, at + 90, 30):
                for one, _, _ in sums_for(web, seed)[:2]:
                    if holds(one, web):
                        self.same(one.worth(web)[0] > 0, never_zero(one, web))
                        self.same(one.worth(web)[0] == 0, is_identity(one, web))

    def test_stretches(self):
        web = LEAN[10]
        one = TwoSum(4, (0, 2), [((), 1), ((0, 1), -1)])
        self.same(holds(one, web), True)
        told = Stretches([(0, HALF), (0, (1, 3)), ((1, 4), (1, 2)), (0, 0), ((1, 7), (1, 6))])
        for _, corner in corners(web, told):
            self.assertGreaterEqual(one.worth(corner)[0], 0)

    def test_never_zero_without_holding(self):
        one = OneSum(2, [((), -1), ((0, 1), 2)])
        self.same((holds(one, Web.line(0)), never_zero(one, Web.line(0))), (False, True))
        self.same((never_zero(-one, Web(2, [])), never_zero(one, Web(2, []))), (True, False))
        self.same(never_zero(OneSum(2, []), Web.line(0)), False)

    def test_pair_sums_of_apart_places(self):
        for at, web in enumerate(SHAPES):
            pair, lot, rows = sums_for(web, at)[2]
            by_shape = parts_of(range(web.many), [tie[:2] for tie in web.ties])
            whole = [value_told(lot, rows, by_shape, saying) for saying in all_sayings(web.many)]
            if any(len(set(block) & set(lot)) % 2 for block in by_shape):
                self.same(is_identity(pair, web), True)
            else:
                self.same(holds(pair, web), min(whole) >= 0)
            # The one-sum with these rows, whatever the signs: corners with all pulls near -1, 0 or 1 suffice.
            if holds(pair, web):
                for numbers in (Numbers(at), Numbers(at + 1)):
                    any_web = Web(web.many, [(u, v, numbers.pull(-1)) for u, v, _ in web.ties])
                    if all(len(set(block) & set(lot)) % 2 == 0 for block in by_shape):
                        self.assertGreaterEqual(OneSum(web.many, rows).worth(any_web)[0], 0)

    def test_no_products_of_three(self):
        for t in (HALF, (1, 9)):
            told = fraction(mean(Web.line(t), (0, 1)))
            self.assertLess(told ** 3 - told, 0)
            self.assertLess(told ** 2 - told, 0)


class TestBreakingWeb(Case):
    def test_least_power(self):
        broken = 0
        for at, web in enumerate(SHAPES):
            for seed in range(at, at + 120, 30):
                for one, _, _ in sums_for(web, seed):
                    where, found = breaking(one, web), breaking_web(one, web)
                    if where is None:
                        self.same(found, None)
                        continue
                    broken += 1
                    wanted = near_webs(one, web, where, least_told(one, web, where))
                    self.assertEqual(found if isinstance(one, PairSum) else (found,), wanted)
        self.assertGreater(broken, 100)

    def test_known(self):
        one = -TwoSum(3, (0, 2), [((), 1), ((0, 1), -1)])
        self.same((breaking(one, RING), breaking_web(one, RING).ties),
                  (((0, 2), (1,)), ((0, 1, (0, 1)), (1, 2, (0, 1)), (2, 0, HALF))))
        pair = PairSum(2, (), [((), 0), ((0, 1), 1)])
        self.same(breaking(pair, Web.line(0)), (((0, 1),), (1, -1)))
        found = breaking_web(pair, Web.line(0))
        self.assertIs(type(found), tuple)
        self.same([web.ties for web in found], [((0, 1, HALF),), ((0, 1, (-1, 2)),)])
        self.same(breaking_web(OneSum(1, [((), -1)]), Web(1, [(0, 0, 0)])).ties, ((0, 0, HALF),))
        self.same(breaking_web(OneSum(1, [((), -1)]), Web(1, [])).ties, ())

    def test_large_powers(self):
        # On one tie <01> is the pull itself: 1 - 1/2^k must be above 1 - 1/10^d.
        for d in (3, 6, 40, 400):
            one = OneSum(2, [((), (10 ** d - 1, 10 ** d)), ((0, 1), -1)])
            k = (10 ** d).bit_length()
            self.same(breaking_web(one, Web.line(HALF)).ties, ((0, 1, (2 ** k - 1, 2 ** k)),))

    def test_least_power_of_a_polynomial(self):
        # The polynomials, in the odds 2^(k+1) - 1 of the pulls, are below 0 for some k, then not, then for all large k.
        numbers, later = Numbers(3), 0
        for _ in range(300):
            row = [-1 - numbers.below(3)]
            for _ in range(1 + numbers.below(6)):
                root = (1 << numbers.below(12)) + numbers.below(3) - 1
                row = [a - root * b for a, b in zip(row + [0], [0] + row)]
            told = [sum(c * (2 ** (k + 1) - 1) ** at for at, c in enumerate(row[::-1])) < 0 for k in range(1, 30)]
            self.same(least_power(row), told.index(True) + 1)
            later += False in told[told.index(True):]
        self.assertGreater(later, 30)
        self.same(least_power([-1, 10 ** 3000]), (10 ** 3000 + 1).bit_length() - 1)

    def test_near_web_bound(self):
        for at, web in enumerate(SHAPES):
            for one, lot, rows in sums_for(web, at):
                size = sum(abs(fraction(told)) for _, told in one.rows)
                for where, value in values(one, lot, rows, web)[::5]:
                    for k in (0, 1, 3, 9):
                        worth = fraction(one.worth(*near_webs(one, web, where, k)))
                        self.assertLessEqual(abs(worth - value), Fraction(2 * (web.many - 1)) * size / 2 ** k)


class TestKnownSums(Case):
    def test_excess(self):
        for web in LEAN[:14]:
            lots = all_even(web.many)[::2]
            for one in lots:
                for other in lots:
                    two = TwoSum(web.many, joined_lots(one, other), [((), 1), (other, -1)])
                    self.same(two.worth(web), excess(web, one, other))
                    self.same(holds(two, web), True)
                    self.assertTrue(hangs(web))
                    self.same(never_zero(two, web), odd_halving(web, one, other) is not None)

    def test_cut_sums(self):
        for web in LEAN[4:14] + MIXED[5:10]:
            for lot in ((0,), (1,), (0, 1), (1, 2), (2,)):
                if web.many > max(lot) and web.many > 2:
                    for u, w in ((0, 2), (1, 0), (2, 1)):
                        rows = [(joined_lots((u,), (c,)), 1) for c in lot] + [((), -1)]
                        two = TwoSum(web.many, (u, w), rows)
                        wanted = fraction(cut_sum(web, u, w, lot)) - fraction(mean(web, (u, w)))
                        self.assertEqual(fraction(two.worth(web)), wanted)
                        self.same(holds(two, web), is_cut(web, lot, u, w))

    def test_signs_saying_web(self):
        # A two-sum that holds need not be above 0 where pulls are below 0.
        web = Web.ring(HALF, HALF, (-1, 2))
        self.assertIsNone(signs_saying(web))
        self.assertLess(TwoSum(3, (0, 2), [((), 1), ((0, 1), -1)]).worth(web)[0], 0)


class TestWrong(Case):
    def test_counts(self):
        for call in (breaking, holds, is_identity, breaking_web):
            for one in (OneSum(3, []), TwoSum(3, (0, 1), [((), -1)]), PairSum(3, (), [((), 1)])):
                for many in (1, 2, 4, 7, 10):
                    self.raises(BadCount(), call, one, Web(many, []))
            for many in (3, 6, 10):
                self.raises(TooMany(6, 5), call, PairSum(6, (), []), Web(many, []))
            call(OneSum(6, [((), -1)]), Web(6, []))
            call(PairSum(5, (), [((), -1)]), Web(5, []))
        for one in (OneSum(3, []), TwoSum(3, (0, 1), [])):
            self.raises(BadCount(), never_zero, one, Web(2, []))
            self.raises(BadCount(), never_zero, one, Web(7, []))

    def test_hanging_is_by_the_shape(self):
        one = OneSum(2, [((0, 1), -1)])
        self.same((holds(one, Web(2, [])), holds(one, Web.line(0)), hangs_told(Web.line(0), (0, 1))), (True, False, False))


if __name__ == "__main__":
    unittest.main()
