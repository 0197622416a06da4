"""leanwebs.clusters: points [7] and [18]."""

import unittest
from fractions import Fraction

from leanwebs.clusters import cluster_chances, cluster_weight, clusters, fits, sign_given
from leanwebs.errors import BadBundle, BadLot, TooMany
from leanwebs.lots import lots
from leanwebs.sums import mean, total
from leanwebs.webs import Web
from tests.helper import (HALF, MIXED, NO_NUMBERS, NOT_BELOW, WIDE, Case, all_sayings, all_subsets, clusters_of, fraction,
                          is_even_in, product, pulls_of, ratio, sign_of_lot)
from tests.test_bundles import NINE, WEB, rings_of


def sayings_told(web, bundle):
    """The sayings with like ends along ties not below 0 and unlike ends along ties below 0."""
    ties = [web.ties[k] for k in bundle]
    return [saying for saying in all_sayings(web.many)
            if all(saying[u] * saying[v] == (-1 if t[0] < 0 else 1) for u, v, t in ties)]


def weight_told(web, bundle):
    if not sayings_told(web, bundle):
        return Fraction(0)
    pulls = [abs(t) for t in pulls_of(web)]
    inside = product(2 * pulls[k] if k in bundle else 1 - pulls[k] for k in range(len(pulls)))
    return inside * 2 ** len(clusters_of(web, bundle))


class TestClusters(Case):
    def test_example(self):
        web = Web(2, [(0, 1, (1, 2)), (0, 1, (-1, 2))])
        self.same((cluster_chances(web), sign_given(web, (1,), (0, 1)), sign_given(web, (0, 1), (0, 1))),
                  ([((), (1, 3)), ((0,), (1, 3)), ((1,), (1, 3))], -1, 0))

    def test_clusters(self):
        self.same(clusters(WEB, ()), ((0,), (1,), (2,), (3,)))
        self.same(clusters(WEB, [3, 0, 2]), ((0, 1), (2, 3)))
        self.same(clusters(WEB, (3,)), ((0,), (1,), (2, 3)))
        for web in MIXED:
            for bundle in all_subsets(range(len(web.ties))):
                self.same(clusters(web, bundle[::-1]), clusters_of(web, bundle))

    def test_fits(self):
        self.same(fits(WEB, ()), True)
        self.same(fits(WEB, [1, 0]), False)
        self.same(fits(Web(1, [(0, 0, (-1, 2))]), (0,)), False)
        self.same(fits(Web(1, [(0, 0, 0)]), (0,)), True)
        self.same(fits(Web.ring(HALF, (-1, 2), (-1, 3), 0), (0, 1, 2, 3)), True)
        self.same(fits(Web.ring(HALF, (-1, 2), (1, 3), 0), [3, 1, 2, 0]), False)
        for web in MIXED:
            bad = [ring for ring in rings_of(web) if len([k for k in ring if web.ties[k][2][0] < 0]) % 2]
            for bundle in all_subsets(range(len(web.ties))):
                wanted = not any(set(ring) <= set(bundle) for ring in bad)
                self.same(fits(web, bundle[::-1]), wanted)
                self.assertEqual(wanted, bool(sayings_told(web, bundle)))

    def test_sign_given(self):
        web = Web.line((-1, 2), (-1, 3), HALF)
        self.same([sign_given(web, (0, 1), lot) for lot in ((), (0, 1), [2, 0], (1, 2), (2, 3), (0,))], [1, -1, 1, -1, 0, 0])
        for web in MIXED:
            for bundle in all_subsets(range(len(web.ties))):
                told = sayings_told(web, bundle)
                for lot in lots(web.many):
                    even = is_even_in(lot, clusters_of(web, bundle))
                    signs = {sign_of_lot(saying, lot) for saying in told} if even else set()
                    self.assertLessEqual(len(signs), 1)
                    self.same(sign_given(web, list(bundle), lot[::-1]), signs.pop() if signs else 0)

    def test_cluster_weight(self):
        self.same(cluster_weight(Web(3, []), ()), (8, 1))
        self.same(cluster_weight(Web.line((-1, 3)), [0]), (4, 3))
        self.same(cluster_weight(Web.line((-1, 3)), ()), (8, 3))
        self.same(cluster_weight(Web.line(0), [0]), (0, 1))
        self.same(cluster_weight(Web(1, [(0, 0, (-1, 3))]), [0]), (0, 1))
        for web in MIXED:
            for bundle in all_subsets(range(len(web.ties))):
                self.same(cluster_weight(web, bundle[::-1]), ratio(weight_told(web, bundle)))

    def test_cluster_chances(self):
        for web in MIXED + (NINE,):
            whole = fraction(total(web))
            told = [(bundle, weight_told(web, bundle)) for bundle in all_subsets(range(len(web.ties)))]
            self.assertEqual(sum(weight for _, weight in told), whole)
            self.same(cluster_chances(web), [(bundle, ratio(weight / whole)) for bundle, weight in told if weight])
        self.same(cluster_chances(Web(2, [])), [((), (1, 1))])

    def test_means_by_clusters(self):
        for web in MIXED:
            told = cluster_chances(web)
            for lot in lots(web.many):
                found = sum(fraction(chance) * sign_given(web, bundle, lot) for bundle, chance in told)
                self.same(mean(web, lot), ratio(found))

    def test_means_as_chances(self):
        for web in NOT_BELOW:
            told = cluster_chances(web)
            for lot in lots(web.many):
                found = sum(fraction(chance) for bundle, chance in told if is_even_in(lot, clusters(web, bundle)))
                self.same(mean(web, lot), ratio(found))

    def test_wrong(self):
        for call in (clusters, fits, cluster_weight):
            self.raises(TooMany(10, 9), call, WIDE, None)
            for bundle in NO_NUMBERS + ((5,), (0, 5)):
                self.raises(BadBundle(), call, WEB, bundle)
        self.raises(TooMany(10, 9), cluster_chances, WIDE)
        self.raises(TooMany(10, 9), sign_given, WIDE, None, None)
        for wrong in NO_NUMBERS + ((5,),):
            self.raises(BadBundle(), sign_given, WEB, wrong, None)
            self.raises(BadLot(), sign_given, WEB, (), wrong)
            self.raises(BadLot(), sign_given, WEB, (0, 1), wrong)

    def test_lists_are_new(self):
        cluster_chances(WEB).clear()
        self.assertTrue(cluster_chances(WEB))


if __name__ == "__main__":
    unittest.main()
