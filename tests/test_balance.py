"""leanwebs.balance: points [38] and [39]."""

import itertools
import unittest

from leanwebs.balance import beyond, minus_ring, signs_saying
from leanwebs.errors import TooMany
from leanwebs.stretches import Stretches
from leanwebs.webs import Web
from tests.helper import (HALF, LEAN, MIXED, WIDE, Case, Numbers, all_sayings, all_subsets, mean_of, parts_of, product,
                          pulls_of, ways_told)

LESS = (-1, 2)
SIGNED = MIXED + tuple(Numbers(seed).web(2 + seed % 4, 3 + seed % 6) for seed in range(40, 60))
SIGNED += tuple(web.contrary([k for k in range(len(web)) if Numbers(at + k).below(2)]) for at, web in enumerate(LEAN))


def is_ring_told(web, bundle):
    """The first tie, and a way between its ends by just the others."""
    u, v, _ = web.ties[bundle[0]]
    rest = set(bundle[1:])
    return u != v and any(set(way) == rest for way, _ in ways_told(web, u, v, True))


def minus_ring_told(web):
    pulls = pulls_of(web)
    for bundle in all_subsets(range(len(web))):
        if len(bundle) > 1 and product(pulls[k] for k in bundle) < 0 and is_ring_told(web, bundle):
            return bundle
    return None


def saying_told(web):
    for said in all_sayings(web.many):
        if all(u == v or t[0] == 0 or said[u] * said[v] * t[0] > 0 for u, v, t in web.ties):
            return said
    return None


class TestMinusRing(Case):
    def test_example(self):
        one, two = Web.ring(HALF, HALF, LESS), Web.ring(HALF, LESS, (-1, 3))
        self.same((minus_ring(one), signs_saying(one), minus_ring(two), signs_saying(two)),
                  ((0, 1, 2), None, None, (1, 1, -1)))

    def test_minus_ring(self):
        for web in SIGNED:
            self.same(minus_ring(web), minus_ring_told(web))

    def test_edges(self):
        self.same(minus_ring(Web(1, [])), None)
        self.same(minus_ring(Web(1, [(0, 0, LESS)])), None)
        self.same(minus_ring(Web(1, [(0, 0, LESS), (0, 0, HALF)])), None)
        self.same(minus_ring(Web(2, [(0, 1, LESS)])), None)
        self.same(minus_ring(Web(2, [(0, 1, LESS), (1, 0, (1, 3))])), (0, 1))
        self.same(minus_ring(Web(2, [(0, 1, LESS), (1, 0, LESS)])), None)
        self.same(minus_ring(Web(2, [(0, 1, LESS), (1, 0, 0), (1, 1, HALF), (0, 1, HALF)])), (0, 3))
        # Two rings that share a place are no ring.
        eight = Web(5, [(0, 1, LESS), (1, 2, HALF), (2, 0, HALF), (0, 3, LESS), (3, 4, HALF), (4, 0, HALF)])
        self.same(minus_ring(eight), (0, 1, 2))
        self.same(minus_ring(eight.contrary((0,))), (3, 4, 5))
        # Nor are two rings apart.
        self.same(minus_ring(Web.ring(LESS, LESS) + Web.ring(LESS, LESS, LESS, LESS)), None)
        # The smaller bundle is first, even if its numbers are greater.
        self.same(minus_ring(Web(3, [(0, 1, LESS), (1, 2, HALF), (2, 0, HALF), (2, 0, LESS)])), (2, 3))

    def test_size(self):
        self.same(minus_ring(Web.ring(*[HALF] * 8 + [LESS])), tuple(range(9)))
        for call in (minus_ring, beyond):
            self.raises(TooMany(10, 9), call, WIDE)


class TestSaying(Case):
    def test_signs_saying(self):
        for web in SIGNED + (WIDE,):
            self.same(signs_saying(web), saying_told(web))

    def test_either_ring_or_saying(self):
        for web in SIGNED:
            self.assertEqual(minus_ring(web) is None, signs_saying(web) is not None)

    def test_least_place_of_each_piece_says_yes(self):
        found = signs_saying(Web(6, [(1, 0, LESS), (2, 3, LESS), (5, 4, LESS), (0, 2, 0), (1, 1, LESS), (4, 5, LESS)]))
        self.same(found, (1, -1, 1, -1, 1, -1))
        self.same(signs_saying(Web(3, [])), (1, 1, 1))
        self.same(signs_saying(Web(2, [(1, 1, LESS), (0, 1, 0)])), (1, 1))
        self.same(signs_saying(Web.line(*[LESS] * 9)), (1, -1) * 5)
        self.same(signs_saying(Web.ring(*[LESS] * 9 + [HALF])), None)
        for web in SIGNED:
            said = signs_saying(web)
            if said is not None:
                pieces = parts_of(range(web.many), [(u, v) for u, v, t in web.ties if t[0]])
                self.assertTrue(all(said[piece[0]] == 1 for piece in pieces))


class TestBeyond(Case):
    def check(self, web):
        found = beyond(web)
        if minus_ring_told(web) is None:
            self.assertIsNone(found)
            return
        told, lot, bundle = found
        self.assertIs(type(found), tuple)
        self.assertIs(type(told), Stretches)
        self.plain(told.rows)
        self.plain(lot)
        self.plain(bundle)
        self.assertEqual(len(told.rows), len(web))
        for (low, high), (_, _, t) in zip(told.rows, web.ties):
            for end in (low, high):
                self.assertEqual((end[0] > 0) - (end[0] < 0), (t[0] > 0) - (t[0] < 0))
                self.assertLess(max(abs(end[0]), end[1]), 10 ** 30)
        self.assertEqual(lot, tuple(sorted(set(lot))))
        self.assertEqual(len(lot) % 2, 0)
        moving = [k for k, (low, high) in enumerate(told.rows) if low != high]
        self.assertEqual(bundle, tuple(sorted(set(bundle) & set(moving))))
        corner = Web(web.many, [(u, v, told.rows[k][k in bundle]) for k, (u, v, _) in enumerate(web.ties)])
        self.assertTrue(told.agrees(corner))
        size = abs(mean_of(corner, lot))
        self.assertGreater(size, abs(mean_of(told.sizes_low(web), lot)))
        self.assertGreater(size, abs(mean_of(told.sizes_high(web), lot)))

    def test_samples(self):
        for web in SIGNED:
            self.check(web)

    def test_rings_of_all_signs(self):
        for many in range(2, 6):
            for pulls in itertools.product((HALF, (-1, 3)), repeat=many):
                self.check(Web.ring(*pulls))

    def test_more_ties_at_the_ring(self):
        for pulls in itertools.product((HALF, LESS), repeat=5):
            self.check(Web(3, [(0, 1, pulls[0]), (1, 2, pulls[1]), (2, 0, pulls[2]), (0, 1, pulls[3]),
                               (1, 1, pulls[4]), (2, 1, 0)]))

    def test_nine_ties(self):
        self.check(Web.ring(*[HALF] * 8 + [LESS]))
        self.check(Web.ring(*[LESS] * 9))
        self.check(Web(2, [(0, 1, HALF)] * 4 + [(1, 0, LESS)] * 5))
        self.check(Web(5, [(0, 1, HALF), (0, 2, LESS), (0, 3, HALF), (0, 4, LESS), (1, 2, LESS), (1, 3, HALF),
                           (1, 4, LESS), (2, 3, LESS), (2, 4, LESS)]))


if __name__ == "__main__":
    unittest.main()
