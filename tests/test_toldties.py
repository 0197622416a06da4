"""leanwebs.toldties: point [20]."""

import unittest
from fractions import Fraction

from leanwebs.bundles import bundle_sum, bundles_with
from leanwebs.clusters import cluster_chances
from leanwebs.errors import BadBundle, BadLot, BadTie, BelowZero, OddLot, TooMany
from leanwebs.lots import even_lots
from leanwebs.sums import mean
from leanwebs.toldties import tie_chances, told_clusters, told_inner
from leanwebs.webs import Web
from tests.helper import (HALF, NO_INTEGERS, NO_NUMBERS, NOT_BELOW, WIDE, Case, MyInt, all_subsets, clusters_of,
                          fraction, is_even_in, product, pulls_of, ratio)
from tests.test_joints import BELOW, LINE, told_lots

BOTH = (told_inner, told_clusters)


def inner_told(web, ties, inner, lot):
    """The chance over all bundles with odd ends lot."""
    found = sum((product(pulls_of(web)[k] for k in bundle) for bundle in bundles_with(web, lot)
                 if set(bundle) & set(ties) == set(inner)), Fraction(0))
    return found / fraction(bundle_sum(web, lot))


def clusters_told(web, ties, inner, lot):
    """The chance over all cluster bundles in whose clusters the lot is even."""
    rows = [(bundle, fraction(part)) for bundle, part in cluster_chances(web)
            if is_even_in(lot, clusters_of(web, bundle))]
    found = sum((part for bundle, part in rows if set(bundle) & set(ties) == set(inner)), Fraction(0))
    return found / sum(part for _, part in rows)


class TestTold(Case):
    def test_by_all_bundles(self):
        for web in NOT_BELOW:
            for lot in told_lots(web):
                for ties in all_subsets(range(len(web.ties))):
                    for inner in all_subsets(ties):
                        self.same(told_inner(web, ties[::-1], inner, lot=lot),
                                  ratio(inner_told(web, ties, inner, lot)))
                        self.same(told_clusters(web, list(ties), inner[::-1], lot=lot[::-1]),
                                  ratio(clusters_told(web, ties, inner, lot)))

    def test_ring(self):
        ring = Web.ring(HALF, HALF, HALF)
        self.same([told_inner(ring, (0,), inner) for inner in ((), (0,))], [(8, 9), (1, 9)])
        self.same([told_clusters(ring, [0], inner) for inner in ([], [0])], [(4, 9), (5, 9)])
        self.same(told_inner(ring, (0, 1), (0,)), (0, 1))
        self.same([told_inner(ring, (), ()), told_clusters(ring, (), ())], [(1, 1), (1, 1)])
        self.same(told_inner(ring, (0,), (0,), lot=[1, 0]), (2, 3))

    def test_tie_chances(self):
        self.same(tie_chances(Web.ring(HALF, HALF, HALF), 0), ((1, 9), (5, 9), (5, 6)))
        self.same(tie_chances(Web(1, [(0, 0, HALF)]), 0), ((1, 3), (2, 3), (1, 1)))
        self.same(tie_chances(LINE, MyInt(1)), ((0, 1), (0, 1), (1, 2)))
        self.same(tie_chances(Web.line((1, 3)), 0), ((0, 1), (1, 3), (2, 3)))
        for web in NOT_BELOW:
            for number, (u, v, t) in enumerate(web.ties):
                one, two, alike = tie_chances(web, number)
                self.same((one, two), (told_inner(web, (number,), (number,)), told_clusters(web, (number,), (number,))))
                m = fraction(mean(web, (u, v))) if u != v else 1
                self.same(alike, ratio((1 + m) / 2))
                self.assertEqual(fraction(two), fraction(one) + fraction(t) * (1 - fraction(one)))


class TestWrong(Case):
    def test_web_first(self):
        for call in BOTH:
            self.raises(TooMany(10, 9), call, WIDE, None, None, lot=None)
            self.raises(BelowZero(1), call, BELOW, None, None, lot=None)
        self.raises(TooMany(10, 9), tie_chances, WIDE, None)
        self.raises(BelowZero(1), tie_chances, BELOW, None)

    def test_bundles(self):
        for call in BOTH:
            for bundle in NO_NUMBERS + ((3,), (0, 3)):
                self.raises(BadBundle(), call, LINE, bundle, None, lot=None)
                self.raises(BadBundle(), call, LINE, (0, 1, 2), bundle, lot=None)
            self.raises(BadBundle(), call, LINE, (), (0,), lot=None)
            self.raises(BadBundle(), call, LINE, (0, 1), (0, 2), lot=None)

    def test_lots(self):
        for call in BOTH:
            for lot in NO_NUMBERS + ((4,), (0, 4)):
                self.raises(BadLot(), call, LINE, (0,), (), lot=lot)
            for lot in ((0,), [1, 2, 3]):
                self.raises(OddLot(), call, LINE, (0,), (), lot=lot)
            for lot in even_lots(4):
                if mean(LINE, lot) == (0, 1):
                    self.raises(BadLot(), call, LINE, (0,), (), lot=lot)
            with self.assertRaises(TypeError):
                call(LINE, (0,), (), ())

    def test_numbers(self):
        for number in NO_INTEGERS + (-1, 3, 10 ** 20):
            self.raises(BadTie(number), tie_chances, LINE, number)


if __name__ == "__main__":
    unittest.main()
