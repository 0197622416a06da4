"""leanwebs.signs: points [68] and [69]."""

import unittest

from leanwebs.errors import BadLot, BadPlace, BadPull, BelowZero, NotPositive, OddLot, TooMany, UnlikeShapes
from leanwebs.signs import forests, sign_kept, way_bounds
from leanwebs.webs import Web
from tests.helper import (HALF, LEAN, MIXED, NO_NUMBERS, NOT_BELOW, Case, Numbers, all_even, all_subsets, clusters_of,
                          joined_lots, means_told, no_places, odd_ends_of, product, pulls_of, ratio, ways_told)

RING = Web.ring(HALF, HALF, HALF)
LARGE = (Web(7, [(0, 0, (-1, 2))] * 10), 7, 6), (Web(6, [(0, 0, (-1, 2))] * 10), 10, 9)


def forests_told(web, lot):
    """A bundle is without rings exactly if each of its ties is needed for its clusters."""
    return [bundle for bundle in all_subsets(range(len(web))) if odd_ends_of(web, bundle) == lot
            and all(clusters_of(web, bundle) != clusters_of(web, [k for k in bundle if k != one]) for one in bundle)]


def others_of(web):
    """Webs of the shape with pulls in size at most those of the web."""
    numbers = Numbers(len(web) + web.many)
    found = [web, -web] + [web.contrary((k,)) for k in range(len(web))]
    found += [web.with_pull(k, (p, 2 * q)) for k, (_, _, (p, q)) in enumerate(web.ties)]
    for _ in range(3):
        found.append(web.turned(numbers.some(range(web.many))))
        found.append(web.contrary(numbers.some(range(len(web)))))
        found.append(Web(web.many, [(u, v, (numbers.below(3) * p - p, 1 * q)) for u, v, (p, q) in web.ties]))
    return found


class TestForests(Case):
    def test_forests(self):
        for web in MIXED + LEAN:
            for lot in all_even(web.many):
                found = forests_told(web, lot)
                self.same(forests(web, lot[::-1]), found)
                if len(lot) == 2:
                    rows = [tuple(sorted(way)) for way, _ in ways_told(web, *lot, by_shape=True)]
                    self.assertEqual(sorted(rows), sorted(found))

    def test_known(self):
        self.same(forests(RING, [1, 0]), [(0,), (1, 2)])
        self.same(forests(RING, ()), [()])
        self.same(forests(Web(2, [(0, 1, 0), (0, 0, HALF), (1, 0, 0)]), (0, 1)), [(0,), (2,)])
        self.same(forests(Web(3, [(0, 1, HALF)]), (1, 2)), [])
        self.same(forests(Web.ring(HALF, HALF, HALF, HALF), (0, 1, 2, 3)), [(0, 2), (1, 3)])

    def test_wrong(self):
        for web, many, most in LARGE:
            self.raises(TooMany(many, most), forests, web, None)
        for lot in NO_NUMBERS + ((3,), (0, 3)):
            self.raises(BadLot(), forests, RING, lot)
        for lot in ((0,), [2, 1, 0]):
            self.raises(OddLot(), forests, RING, lot)


class TestSignKept(Case):
    def test_example(self):
        other = RING.contrary((2,))
        self.same((sign_kept(RING, other, (0, 1)), way_bounds(RING, 0, 1)), (0, ((1, 2), (3, 4))))

    def test_sign_kept(self):
        seen = set()
        for web in LEAN:
            told = means_told(web)
            for other in others_of(web):
                means = means_told(other)
                for lot in all_even(web.many):
                    rows = [(product(pulls_of(web)[k] for k in one), product(pulls_of(other)[k] for k in one))
                            for one in forests_told(web, lot)]
                    kept, turned = all(x == y for x, y in rows), all(x == -y for x, y in rows)
                    wanted = 2 if not rows else 1 if kept else -1 if turned else 0
                    seen.add(wanted)
                    self.same(sign_kept(web, other, list(lot)), wanted)
                    self.assertLessEqual(abs(means[lot]), told[lot])
                    self.assertEqual(means[lot] == told[lot], kept)
                    self.assertEqual(means[lot] == -told[lot], turned)
        self.assertEqual(seen, {0, 1, -1})

    def test_products(self):
        """The last fact of [68]."""
        for web in LEAN[:14]:
            told = means_told(web)
            for other in others_of(web):
                means = means_told(other)
                for lot in told:
                    for part in told:
                        whole = told[joined_lots(lot, part)]
                        self.assertGreaterEqual(whole, abs(told[lot] * means[part]))
                        self.assertGreaterEqual(whole, abs(means[lot] * means[part]))

    def test_known(self):
        web = Web(4, [(0, 1, HALF), (1, 2, HALF)])
        self.same(sign_kept(web, web, (0, 3)), 2)
        self.same(sign_kept(web, -web, (0, 1)), -1)
        self.same(sign_kept(web, -web, (0, 2)), 1)
        self.same(sign_kept(web, -web, ()), 1)
        self.same(sign_kept(web, web.with_pull(1, 0), (0, 2)), 0)
        self.same(sign_kept(web, web.with_pull(1, 0), (0, 1)), 1)
        self.same(sign_kept(web, web.with_pull(1, (-2, 4)), (2, 0)), -1)

    def test_web_first(self):
        small = Web(1, [])
        for web, many, most in LARGE:
            self.raises(TooMany(many, most), sign_kept, web, small, None)
        self.raises(NotPositive(1), sign_kept, Web(3, [(0, 1, HALF), (1, 2, 0), (1, 1, (-1, 2))]), small, None)
        self.raises(NotPositive(0), sign_kept, Web(3, [(0, 1, (-1, 2))]), small, None)

    def test_other(self):
        for other in (Web(3, []), Web(4, RING.ties), LARGE[0][0], Web(3, [(0, 1, HALF), (1, 2, HALF), (0, 2, HALF)])):
            self.raises(UnlikeShapes(), sign_kept, RING, other, None)
        self.raises(BadPull(1), sign_kept, RING, Web.ring((-1, 2), (-2, 3), (2, 3)), None)
        self.raises(BadPull(2), sign_kept, RING, Web.ring(0, HALF, (51, 100)), None)

    def test_lots(self):
        for lot in NO_NUMBERS + ((3,), (0, 3)):
            self.raises(BadLot(), sign_kept, RING, RING, lot)
        for lot in ((0,), [2, 1, 0]):
            self.raises(OddLot(), sign_kept, RING, RING, lot)


class TestWayBounds(Case):
    def test_bounds(self):
        for web in NOT_BELOW + LEAN:
            told = means_told(web)
            for u in range(web.many):
                for v in range(web.many):
                    if u != v:
                        rows = [product(pulls_of(web)[k] for k in way) for way, _ in ways_told(web, u, v)]
                        low, high = max(rows, default=0), sum(rows)
                        self.same(way_bounds(web, u, v), (ratio(low), ratio(high)))
                        mean = told[min(u, v), max(u, v)]
                        self.assertTrue(low <= mean <= high)
                        self.assertEqual(low == mean, len(rows) < 2)
                        self.assertEqual(mean == high, len(rows) < 2)

    def test_known(self):
        self.same(way_bounds(Web(2, []), 0, 1), ((0, 1), (0, 1)))
        self.same(way_bounds(Web(2, [(0, 1, 0)]), 1, 0), ((0, 1), (0, 1)))
        self.same(way_bounds(Web.line(HALF, (2, 3)), 2, 0), ((1, 3), (1, 3)))
        self.same(way_bounds(Web(2, [(0, 1, (1, 3)), (1, 0, HALF), (0, 1, HALF)]), 0, 1), ((1, 2), (4, 3)))

    def test_wrong(self):
        for web, many, most in LARGE:
            self.raises(TooMany(many, most), way_bounds, web, None, None)
        self.raises(BelowZero(1), way_bounds, Web.line(HALF, (-1, 2), (-1, 3)), None, None)
        for place in no_places(3):
            self.raises(BadPlace(), way_bounds, RING, place, 0)
            self.raises(BadPlace(), way_bounds, RING, 0, place)
        self.raises(BadPlace(), way_bounds, RING, 2, 2)


if __name__ == "__main__":
    unittest.main()
