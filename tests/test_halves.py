"""leanwebs.halves: points [63], [65], [66] and [67]."""

import itertools
import unittest

from leanwebs.along import Along
from leanwebs.errors import BadLot, BadTie, OddLot, TooMany
from leanwebs.halves import halvings, odd_halving, tie_halving
from leanwebs.webs import Web
from tests.helper import (HALF, LEAN, MIXED, NO_INTEGERS, NO_NUMBERS, Case, MyInt, all_even, hanging_told,
                          joined_lots, means_told, odd_for, ways_told)

RING = Web.ring(HALF, HALF, HALF)
LARGE = (Web(7, [(0, 0, HALF)] * 10), 7, 6), (Web(6, [(0, 0, HALF)] * 10), 10, 9)


class TestHalvings(Case):
    def test_halvings(self):
        for web in MIXED + LEAN:
            self.same(halvings(web), hanging_told(web))

    def test_known(self):
        self.same(halvings(Web(1, [])), [])
        self.same(halvings(Web(2, [])), [(1,)])
        self.same(halvings(Web(3, [])), [])
        self.same(halvings(Web.line(HALF, 0, (-1, 2))), [(3,), (2, 3), (1, 2, 3)])
        self.same(halvings(RING), [(1,), (2,), (1, 2)])
        self.same(halvings(Web(4, [(0, 1, 0), (2, 3, 0)])), [(2, 3)])
        self.same(len(halvings(Web(6, [(0, k, HALF) for k in range(1, 6)] + [(k, k + 1, 0) for k in range(1, 5)]))), 15)
        halvings(RING).clear()
        self.same(len(halvings(RING)), 3)

    def test_size(self):
        for web, many, most in LARGE:
            self.raises(TooMany(many, most), halvings, web)
            self.raises(TooMany(many, most), odd_halving, web, None, None)
            self.raises(TooMany(many, most), tie_halving, web, None, None)


class TestOddHalving(Case):
    def test_odd_halving(self):
        for web in MIXED + LEAN:
            halves = hanging_told(web)
            for lot in all_even(web.many):
                for other in all_even(web.many):
                    wanted = next((half for half in halves if odd_for(half, lot) and odd_for(half, other)), None)
                    self.same(odd_halving(web, lot[::-1], list(other)), wanted)

    def test_known(self):
        self.same(odd_halving(RING, (0, 1), (1, 2)), (1,))
        self.same(odd_halving(RING, (0, 1), ()), None)
        self.same(odd_halving(Web.line(HALF, HALF), (0, 1), (1, 2)), None)

    def test_excess(self):
        """Point [65], and the halvings of [66]."""
        for web in LEAN:
            told = means_told(web)
            for lot in told:
                for other in told:
                    excess = told[joined_lots(lot, other)] - told[lot] * told[other]
                    self.assertGreaterEqual(excess, 0)
                    self.assertEqual(excess > 0, odd_halving(web, lot, other) is not None)
            for u, v, w in itertools.permutations(range(web.many), 3):
                split = any((v in half) != (u in half) and (u in half) == (w in half) for half in halvings(web))
                pair = told[tuple(sorted((u, w)))] > told[tuple(sorted((u, v)))] * told[tuple(sorted((v, w)))]
                self.assertEqual(pair, split)

    def test_wrong(self):
        for lot in NO_NUMBERS + ((3,), (0, 3)):
            self.raises(BadLot(), odd_halving, RING, lot, (0,))
            self.raises(BadLot(), odd_halving, RING, (0, 1), lot)
        for lot in ((0,), [2, 1, 0]):
            self.raises(OddLot(), odd_halving, RING, lot, None)
            self.raises(OddLot(), odd_halving, RING, (), lot)


class TestTieHalving(Case):
    def test_tie_halving(self):
        for web in MIXED + LEAN:
            for number, (u, v, _) in enumerate(web.ties):
                rest = web.without((number,))
                for lot in all_even(web.many):
                    wanted = next((half for half in hanging_told(rest) if odd_for(half, lot)
                                   and (u in half) != (v in half)), None)
                    self.same(tie_halving(web, MyInt(number), lot[::-1]), wanted)

    def test_known(self):
        self.same(tie_halving(RING, 0, (0, 1)), (1,))
        self.same(tie_halving(RING, 0, [2, 0]), (1, 2))
        self.same(tie_halving(Web.line(HALF, HALF), 0, (0, 1)), (1, 2))
        self.same(tie_halving(Web.line(HALF, HALF), 0, (2, 1)), None)
        self.same(tie_halving(Web(2, [(0, 0, HALF)]), 0, (0, 1)), None)

    def test_rising(self):
        """Point [67]."""
        for web in LEAN:
            for number in range(len(web)):
                for lot in all_even(web.many):
                    course = Along(web, number, lot).course
                    found = tie_halving(web, number, lot)
                    self.assertEqual(course, "stays" if found is None else "rises")
                    if len(lot) == 2:
                        on_way = any(number in way for way, _ in ways_told(web, *lot))
                        self.assertEqual(on_way, found is not None)

    def test_wrong(self):
        for number in NO_INTEGERS + (-1, 3, 10 ** 20):
            self.raises(BadTie(number), tie_halving, RING, number, None)
        for lot in NO_NUMBERS + ((3,), (0, 3)):
            self.raises(BadLot(), tie_halving, RING, 0, lot)
        for lot in ((0,), [2, 1, 0]):
            self.raises(OddLot(), tie_halving, RING, 0, lot)


if __name__ == "__main__":
    unittest.main()
