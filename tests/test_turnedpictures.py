"""leanwebs.turnedpictures: points [19], [20] and [131]."""

import unittest
from fractions import Fraction

from leanwebs.clusters import cluster_chances
from leanwebs.errors import BadBundle, TooMany
from leanwebs.joints import inner_and_clusters
from leanwebs.layings import Laying, plain_laying
from leanwebs.sums import mean, total
from leanwebs.toldties import tie_chances
from leanwebs.turnedpictures import picture_in_twin, picture_in_web
from leanwebs.webs import Web
from tests.helper import (HALF, LAID, NO_NUMBERS, Case, MyInt, all_sayings, all_subsets, fraction, layings_of,
                          odd_ends_of, product, pulls_of, ratio)

RING = plain_laying(Web.ring(HALF, HALF, HALF))
SMALL = tuple(web for web in LAID if len(web.ties) <= 5)
TORUS = Laying(Web(2, [(0, 1, HALF), (0, 1, (1, 3)), (0, 1, (1, 5))]), [[0, 2, 4], [1, 3, 5]])


def in_twin_told(laying, inner, bundle):
    """The chance in the twin, from all its sayings."""
    twin, found = laying.twin().web, Fraction(0)
    pulls, rest = pulls_of(twin), [k for k in range(len(twin.ties)) if k not in bundle]
    for saying in all_sayings(twin.many):
        unlike = tuple(k for k, (u, v, _) in enumerate(twin.ties) if saying[u] != saying[v])
        if unlike == inner and not set(unlike) & set(rest):
            found += product(2 * pulls[k] if k in rest else 1 - pulls[k] for k in range(len(pulls)))
    return found / fraction(total(twin))


class TestPictures(Case):
    def test_values(self):
        unlike = 0
        for web in SMALL:
            bundles = all_subsets(range(len(web.ties)))
            for laying in layings_of(web, 2):
                differ = False
                for inner in bundles:
                    for bundle in bundles if len(bundles) < 32 else bundles[::3] + bundles[-1:]:
                        left = picture_in_web(laying, list(inner[::-1]), list(bundle[::-1]))
                        right = picture_in_twin(laying, list(inner[::-1]), list(bundle[::-1]))
                        self.same(left, inner_and_clusters(web, inner, bundle))
                        self.same(right, ratio(in_twin_told(laying, inner, bundle)))
                        if odd_ends_of(web, inner) or not set(inner) <= set(bundle):
                            self.same((left, right), ((0, 1), (0, 1)))
                        differ = differ or left != right
                self.same(differ, not laying.plane)
                unlike += differ
        self.assertGreater(unlike, 2)

    def test_known(self):
        self.same((picture_in_twin(RING, (0, 1, 2), (0, 1, 2)), picture_in_twin(RING, (0,), (0, 1))), ((1, 9), (0, 1)))
        self.same(picture_in_web(RING, [2, MyInt(1), 0], (0, 1, 2)), (1, 9))
        self.same((picture_in_twin(RING, (), ()), picture_in_web(RING, (), ())), ((1, 9), (1, 9)))
        self.same(picture_in_twin(TORUS, (0, 1), (0, 1)), (0, 1))

    def test_larger(self):
        for web in LAID:
            if len(web.ties) == 9:
                laying = plain_laying(web)
                for inner, bundle in (((), ()), ((0, 1, 2), (0, 1, 2, 5)), ((0, 1, 2), tuple(range(9)))):
                    self.same(picture_in_twin(laying, inner, bundle), ratio(in_twin_told(laying, inner, bundle)))

    def test_chances_of_a_tie(self):
        for web in LAID:
            for laying in layings_of(web, 2):
                if laying.plane and len(web.ties) <= 9:
                    twin = laying.twin().web
                    for k, (u, v, _) in enumerate(twin.ties):
                        told = Fraction(1) if u == v else fraction(mean(twin, (u, v)))
                        inner, clusters, _ = [fraction(one) for one in tie_chances(web, k)]
                        self.assertEqual(inner, (1 - told) / 2)
                        self.assertEqual(clusters, 1 - fraction(tie_chances(twin, k)[1]))

    def test_sums_are_chances(self):
        for web in SMALL[:6]:
            laying = plain_laying(web)
            if laying.plane:
                bundles = all_subsets(range(len(web.ties)))
                for bundle, chance in cluster_chances(web):
                    told = sum(fraction(picture_in_twin(laying, inner, bundle)) for inner in bundles)
                    self.same(ratio(told), chance)

    def test_wrong(self):
        large = plain_laying(Web(1, [(0, 0, HALF)] * 10))
        for call in (picture_in_web, picture_in_twin):
            self.raises(TooMany(10, 9), call, large, None, None)
            for bundle in NO_NUMBERS + ((3,), [0, 3]):
                self.raises(BadBundle(), call, RING, bundle, (0,))
                self.raises(BadBundle(), call, RING, (0,), bundle)
                self.raises(BadBundle(), call, RING, (), bundle)


if __name__ == "__main__":
    unittest.main()
