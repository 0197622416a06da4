"""leanwebs.excess: points [64] and [65]."""

import unittest
from fractions import Fraction

from leanwebs.doubled import weights_seen
from leanwebs.errors import BadLot, BelowZero, OddLot, TooMany
from leanwebs.excess import excess, excess_parts
from leanwebs.halves import halvings
from leanwebs.webs import Web
from tests.helper import (HALF, LEAN, MIXED, NO_NUMBERS, NOT_BELOW, WIDE, Case, all_even, all_subsets, fraction,
                          halves_told, is_even_in, joined_lots, means_told, odd_ends_of, odd_for, product, pulls_of,
                          ratio, total_of)

RING = Web.ring(HALF, HALF, HALF)
BELOW = tuple(web for web in MIXED if min(pulls_of(web), default=0) < 0)


def part_told(web, half, lot, other):
    """The part of [64], by bundles."""
    pulls = pulls_of(web)
    between = [k for k, (u, v, _) in enumerate(web.ties) if (u in half) != (v in half)]
    within = [k for k in range(len(web)) if k not in between]
    sums = sum((product(2 * pulls[k] if k in part else 1 + pulls[k] ** 2 for k in within)
                for part in all_subsets(within) if odd_ends_of(web, part) == joined_lots(lot, other)), Fraction(0))
    z = total_of(web) / 2 ** web.many
    return Fraction(4, 2 ** web.many) / z ** 2 * product(1 - pulls[k] ** 2 for k in between) * sums


def parts_told(web, lot, other):
    rows = [(half, part_told(web, half, lot, other)) for half in halves_told(web.many) if odd_for(half, other)]
    return [(half, ratio(part)) for half, part in rows if part]


class TestExcess(Case):
    def test_example(self):
        self.same((excess(RING, (0, 1), (1, 2)), excess_parts(RING, (0, 1), (1, 2))), ((2, 9), [((1,), (2, 9))]))

    def test_excess(self):
        for web in NOT_BELOW + LEAN:
            told = means_told(web)
            for lot in told:
                for other in told:
                    wanted = told[joined_lots(lot, other)] - told[lot] * told[other]
                    self.same(excess(web, lot[::-1], list(other)), ratio(wanted))
                    self.assertGreaterEqual(wanted, 0)

    def test_wide(self):
        web = Web(10, [(u, v, (abs(p), q)) for u, v, (p, q) in WIDE.ties])
        told = means_told(web)
        self.same(excess(web, (0, 1), (3, 0)), ratio(told[(1, 3)] - told[(0, 1)] * told[(0, 3)]))

    def test_parts(self):
        for web in NOT_BELOW:
            for lot in all_even(web.many):
                for other in all_even(web.many):
                    found = excess_parts(web, list(lot), other[::-1])
                    self.same(found, parts_told(web, lot, other))
                    self.assertEqual(sum(fraction(part) for _, part in found), fraction(excess(web, lot, other)))

    def test_parts_of_larger_webs(self):
        for web in LEAN[-3:]:
            for lot, other in (((0, 1), (2, 3)), ((0, 1, 2, 3), (1, 4)), ((3, 4), (3, 4)), ((1, 2), ())):
                found = excess_parts(web, lot, other)
                self.same(found, parts_told(web, lot, other))
                self.assertEqual(sum(fraction(part) for _, part in found), fraction(excess(web, lot, other)))

    def test_halvings_that_do_not_hang(self):
        web = Web(4, [(0, 1, HALF), (2, 3, HALF)])
        self.same(halvings(web), [(2, 3)])
        self.assertIn((3,), [half for half, _ in excess_parts(web, (2, 3), (2, 3))])
        self.same(excess_parts(web, (0, 1), (2, 3)), [])
        self.same(excess_parts(Web(1, []), (), ()), [])

    def test_same_and_empty_lots(self):
        for web in LEAN:
            told = means_told(web)
            for lot in all_even(web.many):
                self.same(excess(web, lot, lot), ratio(1 - told[lot] ** 2))
                self.same(excess(web, lot, ()), (0, 1))
                self.same(excess_parts(web, lot, ()), [])

    def test_weights_seen(self):
        for web in NOT_BELOW:
            for lot in all_even(web.many):
                for other in all_even(web.many):
                    seen = weights_seen(web, joined_lots(lot, other), tuple(range(web.many)))
                    found = sum(fraction(weight) for parting, weight in seen if not is_even_in(other, parting))
                    self.assertEqual(found, fraction(excess(web, lot, other)))


class TestWrong(Case):
    def test_web(self):
        self.raises(TooMany(7, 6), excess_parts, Web(7, [(0, 0, (-1, 2))] * 10), None, None)
        self.raises(TooMany(10, 9), excess_parts, Web(6, [(0, 0, (-1, 2))] * 10), None, None)
        for call in (excess, excess_parts):
            self.raises(BelowZero(2), call, Web(3, [(0, 1, HALF), (1, 2, 0), (1, 1, (-1, 2)), (0, 2, (-1, 3))]), None, None)
            for web in BELOW:
                least = next(k for k, t in enumerate(pulls_of(web)) if t < 0)
                self.raises(BelowZero(least), call, web, None, None)

    def test_lots(self):
        for call in (excess, excess_parts):
            for lot in NO_NUMBERS + ((3,), (0, 3)):
                self.raises(BadLot(), call, RING, lot, (0,))
                self.raises(BadLot(), call, RING, (0, 1), lot)
            for lot in ((0,), [2, 1, 0]):
                self.raises(OddLot(), call, RING, lot, None)
                self.raises(OddLot(), call, RING, (), lot)


if __name__ == "__main__":
    unittest.main()
