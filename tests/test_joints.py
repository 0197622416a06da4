"""leanwebs.joints: point [19]."""

import unittest
from fractions import Fraction

from leanwebs.bundles import bundle_sum
from leanwebs.clusters import cluster_chances
from leanwebs.errors import BadBundle, BadLot, BadSaying, BelowZero, OddLot, TooMany
from leanwebs.joints import (clusters_from_inner, clusters_from_saying, inner_and_clusters, inners_from_clusters,
                             saying_and_clusters, sayings_from_clusters)
from leanwebs.lots import even_lots, lots, sayings
from leanwebs.sums import chance, mean
from leanwebs.webs import Web
from tests.helper import (HALF, NO_NUMBERS, NOT_BELOW, WIDE, Case, all_subsets, clusters_of, fraction, is_even_in,
                          odd_ends_of, product, pulls_of, ratio, total_of)

BELOW = Web.line(HALF, (-1, 2), (-1, 3))
LINE = Web.line(HALF, 0, (1, 3))
CALLS = ((saying_and_clusters, 2), (inner_and_clusters, 2), (clusters_from_saying, 1), (sayings_from_clusters, 1),
         (clusters_from_inner, 1), (inners_from_clusters, 1))


def bundles_of(web):
    return all_subsets(range(len(web.ties)))


def agrees(web, saying, bundle):
    return all(saying[web.ties[k][0]] == saying[web.ties[k][1]] for k in bundle)


def inner_chance(web, inner, lot):
    return product(pulls_of(web)[k] for k in inner) / fraction(bundle_sum(web, lot))


def told_lots(web):
    return [lot for lot in even_lots(web.many) if mean(web, lot) != (0, 1)]


class TestSayingsAndClusters(Case):
    def test_joint(self):
        web = Web.line((1, 3))
        self.same([saying_and_clusters(web, (1, 1), bundle) for bundle in ((), [0])], [(1, 6), (1, 6)])
        self.same([saying_and_clusters(web, [1, -1], bundle) for bundle in ((), (0,))], [(1, 6), (0, 1)])
        for web in NOT_BELOW:
            pulls, whole = pulls_of(web), total_of(web)
            for saying in sayings(web.many):
                for bundle in bundles_of(web):
                    wanted = product(2 * t if k in bundle else 1 - t for k, t in enumerate(pulls)) / whole
                    wanted = wanted if agrees(web, saying, bundle) else Fraction(0)
                    self.same(saying_and_clusters(web, list(saying), bundle[::-1]), ratio(wanted))

    def test_summed(self):
        for web in NOT_BELOW:
            told = {(s, c): fraction(saying_and_clusters(web, s, c)) for s in sayings(web.many) for c in bundles_of(web)}
            for saying in sayings(web.many):
                found = sum(told[saying, bundle] for bundle in bundles_of(web))
                self.same(chance(web, saying), ratio(found))
            found = [(c, ratio(sum(told[s, c] for s in sayings(web.many)))) for c in bundles_of(web)]
            self.same(cluster_chances(web), [row for row in found if row[1] != (0, 1)])

    def test_made_from_each_other(self):
        for web in NOT_BELOW:
            clusters_made = dict(cluster_chances(web))
            back = dict.fromkeys(sayings(web.many), Fraction(0))
            for saying in sayings(web.many):
                made = clusters_from_saying(web, list(saying))
                self.assertEqual([c for c, _ in made], [c for c in bundles_of(web) if c in dict(made)])
                for bundle in bundles_of(web):
                    found = fraction(chance(web, saying)) * fraction(dict(made).get(bundle, (0, 1)))
                    self.same(saying_and_clusters(web, saying, bundle), ratio(found))
                for bundle, part in made:
                    for other, rest in sayings_from_clusters(web, bundle):
                        back[other] += fraction(chance(web, saying)) * fraction(part) * fraction(rest)
            for bundle in bundles_of(web):
                made = sayings_from_clusters(web, bundle[::-1])
                alike = [saying for saying in sayings(web.many) if agrees(web, saying, bundle)]
                many = 2 ** len(clusters_of(web, bundle))
                self.same(made, [(saying, (1, many)) for saying in alike])
                self.assertEqual(len(made), many)
                for saying in sayings(web.many):
                    found = fraction(clusters_made.get(bundle, (0, 1))) * fraction(dict(made).get(saying, (0, 1)))
                    self.same(saying_and_clusters(web, saying, bundle), ratio(found))
            for saying in sayings(web.many):
                self.same(chance(web, saying), ratio(back[saying]))

    def test_clusters_from_saying(self):
        self.same(clusters_from_saying(LINE, (1, 1, 1, 1)),
                  [((), (1, 6)), ((0,), (1, 3)), ((2,), (1, 6)), ((0, 2), (1, 3))])
        self.same(clusters_from_saying(LINE, [1, -1, -1, -1]), [((), (1, 2)), ((2,), (1, 2))])
        self.same(clusters_from_saying(LINE, (1, -1, 1, -1)), [((), (1, 1))])

    def test_sayings_from_clusters(self):
        self.same(sayings_from_clusters(Web.line(HALF), [0]), [((1, 1), (1, 2)), ((-1, -1), (1, 2))])
        self.same(sayings_from_clusters(Web.line(0), [0]), [((1, 1), (1, 2)), ((-1, -1), (1, 2))])
        self.same(sayings_from_clusters(Web.line(HALF), ()),
                  [((1, 1), (1, 4)), ((1, -1), (1, 4)), ((-1, 1), (1, 4)), ((-1, -1), (1, 4))])


class TestInnersAndClusters(Case):
    def test_joint(self):
        ring = Web.ring(HALF, HALF, HALF)
        self.same(inner_and_clusters(ring, (), ()), (1, 9))
        self.same(inner_and_clusters(ring, [2, 1, 0], (0, 2, 1)), (1, 9))
        self.same(inner_and_clusters(ring, (0, 1, 2), (0, 1)), (0, 1))
        self.same(inner_and_clusters(ring, (0,), (0, 1)), (0, 1))
        self.same(inner_and_clusters(ring, (0,), (0, 1), lot=[1, 0]), (1, 6))
        self.same(inner_and_clusters(ring, (), (), lot=(0, 1)), (0, 1))
        for web in NOT_BELOW:
            pulls = pulls_of(web)
            for lot in told_lots(web):
                whole = fraction(bundle_sum(web, lot))
                for inner in bundles_of(web):
                    for bundle in bundles_of(web):
                        wanted = product(t if k in bundle else 1 - t for k, t in enumerate(pulls)) / whole
                        if odd_ends_of(web, inner) != lot or not set(inner) <= set(bundle):
                            wanted = 0
                        self.same(inner_and_clusters(web, inner[::-1], bundle[::-1], lot=lot[::-1]), ratio(wanted))

    def test_summed(self):
        for web in NOT_BELOW:
            told = bundles_of(web)
            for lot in told_lots(web):
                joint = {(f, c): fraction(inner_and_clusters(web, f, c, lot=lot)) for f in told for c in told}
                for inner in told:
                    found = sum(joint[inner, bundle] for bundle in told)
                    self.assertEqual(found, inner_chance(web, inner, lot) if odd_ends_of(web, inner) == lot else 0)
                for bundle in told:
                    found = sum(joint[inner, bundle] for inner in told)
                    part = fraction(dict(cluster_chances(web)).get(bundle, (0, 1)))
                    even = is_even_in(lot, clusters_of(web, bundle))
                    self.assertEqual(found, part / fraction(mean(web, lot)) if even else 0)

    def test_made_from_each_other(self):
        for web in NOT_BELOW:
            told = bundles_of(web)
            for lot in told_lots(web):
                back = dict.fromkeys(told, Fraction(0))
                inners = [inner for inner in told if odd_ends_of(web, inner) == lot]
                for inner in inners:
                    made = dict(clusters_from_inner(web, inner))
                    for bundle in told:
                        found = inner_chance(web, inner, lot) * fraction(made.get(bundle, (0, 1)))
                        self.same(inner_and_clusters(web, inner, bundle, lot=lot), ratio(found))
                    for bundle, part in made.items():
                        for other, rest in inners_from_clusters(web, bundle, lot=lot):
                            back[other] += inner_chance(web, inner, lot) * fraction(part) * fraction(rest)
                for bundle in told:
                    within = [inner for inner in inners if set(inner) <= set(bundle)]
                    if not within:
                        self.raises(BadLot(), inners_from_clusters, web, bundle, lot=lot)
                        continue
                    made = inners_from_clusters(web, bundle[::-1], lot=lot[::-1])
                    self.same(made, [(inner, (1, len(within))) for inner in within])
                    part = fraction(dict(cluster_chances(web)).get(bundle, (0, 1))) / fraction(mean(web, lot))
                    for inner, rest in made:
                        self.same(inner_and_clusters(web, inner, bundle, lot=lot), ratio(part * fraction(rest)))
                for inner in inners:
                    self.assertEqual(back[inner], inner_chance(web, inner, lot))

    def test_clusters_from_inner(self):
        self.same(clusters_from_inner(LINE, [2]), [((2,), (1, 2)), ((0, 2), (1, 2))])
        self.same(clusters_from_inner(LINE, [1]), [((1,), (1, 3)), ((0, 1), (1, 3)), ((1, 2), (1, 6)), ((0, 1, 2), (1, 6))])
        self.same(clusters_from_inner(LINE, (2, 0, 1)), [((0, 1, 2), (1, 1))])
        for web in NOT_BELOW:
            for inner in bundles_of(web):
                made = []
                for bundle in bundles_of(web):
                    if set(inner) <= set(bundle):
                        found = product(t if k in bundle else 1 - t for k, t in enumerate(pulls_of(web)) if k not in inner)
                        made += [(bundle, ratio(found))] if found else []
                self.same(clusters_from_inner(web, inner[::-1]), made)

    def test_inners_from_clusters(self):
        web = Web(2, [(0, 1, HALF), (0, 1, 0), (1, 1, HALF)])
        self.same(inners_from_clusters(web, [1, 0]), [((), (1, 2)), ((0, 1), (1, 2))])
        self.same(inners_from_clusters(web, (1, 2), lot=[1, 0]), [((1,), (1, 2)), ((1, 2), (1, 2))])
        self.raises(BadLot(), inners_from_clusters, web, (2,), lot=(0, 1))


class TestWrong(Case):
    def test_web_first(self):
        ten = Web(2, [(0, 1, (-1, 2))] * 10)
        for call, more in CALLS:
            self.raises(TooMany(10, 9), call, WIDE, *[None] * more)
            self.raises(TooMany(10, 9), call, ten, *[None] * more)
            self.raises(BelowZero(1), call, BELOW, *[None] * more)
        for call in (inner_and_clusters, inners_from_clusters):
            more = dict(CALLS)[call]
            self.raises(BelowZero(1), call, BELOW, *[None] * more, lot=(0,))

    def test_sayings(self):
        for saying in (None, "1111", (1, 1, 1), (1,) * 5, (1, 1, 1, 0), (1, 1, 1, True)):
            self.raises(BadSaying(), saying_and_clusters, LINE, saying, None)
            self.raises(BadSaying(), clusters_from_saying, LINE, saying)

    def test_bundles(self):
        for bundle in NO_NUMBERS + ((3,), (0, 3)):
            self.raises(BadBundle(), saying_and_clusters, LINE, (1,) * 4, bundle)
            self.raises(BadBundle(), inner_and_clusters, LINE, bundle, None, lot=None)
            self.raises(BadBundle(), inner_and_clusters, LINE, (), bundle, lot=None)
            self.raises(BadBundle(), sayings_from_clusters, LINE, bundle)
            self.raises(BadBundle(), clusters_from_inner, LINE, bundle)
            self.raises(BadBundle(), inners_from_clusters, LINE, bundle, lot=None)

    def test_lots(self):
        for lot in NO_NUMBERS + ((4,), (0, 4)):
            self.raises(BadLot(), inner_and_clusters, LINE, (), (), lot=lot)
            self.raises(BadLot(), inners_from_clusters, LINE, (), lot=lot)
        for lot in lots(4):
            if len(lot) % 2:
                self.raises(OddLot(), inner_and_clusters, LINE, (), (), lot=lot)
                self.raises(OddLot(), inners_from_clusters, LINE, (), lot=lot)
        self.raises(BadLot(), inner_and_clusters, LINE, (), (), lot=(1, 2))
        self.raises(BadLot(), inner_and_clusters, LINE, (1,), (1,), lot=(1, 2))
        self.same(inners_from_clusters(LINE, (1,), lot=(1, 2)), [((1,), (1, 1))])
        for call in (inner_and_clusters, inners_from_clusters):
            with self.assertRaises(TypeError):
                call(LINE, (), (), ())


if __name__ == "__main__":
    unittest.main()
