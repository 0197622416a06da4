"""leanwebs.ways: points [61], [62] and [66]."""

import itertools
import unittest

from leanwebs.errors import BadBundle, BadCount, BadPlace, BadRow, TooMany
from leanwebs.ways import apart, cuts, cuts_all, cutting_place, linked, places_along, ways
from leanwebs.webs import Web
from tests.helper import (HALF, LEAN, MIXED, NO_INTEGERS, NO_LISTS, WIDE, Case, MyInt, MyList, Numbers, fours_of,
                          means_told, no_places, no_rows, ways_told)

RING = Web.ring(HALF, HALF, HALF, HALF)
SOME = MIXED + LEAN + tuple(Numbers(seed).web(6, 6 + seed % 4, seed % 2 - 1) for seed in range(70, 80))
LARGE = (Web(7, [(0, 0, HALF)] * 10), 7, 6), (Web(6, [(0, 0, HALF)] * 10), 10, 9)


def pairings(four):
    a, b, c, d = four
    return ((a, b), (c, d)), ((a, c), (b, d)), ((a, d), (b, c))


def meet(one, other):
    return bool(set(one) & set(other))


def linked_told(web, pair, other):
    rows = [row for p in pair for q in other for _, row in ways_told(web, p, q)]
    return any(not meet(one, two) for one in rows for two in rows)


def cutting_told(web, pair, other):
    rows = [row for p in pair for q in other for _, row in ways_told(web, p, q)]
    return next((x for x in range(web.many) if all(x in row for row in rows)), None)


class TestWays(Case):
    def test_example(self):
        self.same((ways(RING, 0, 2), apart(RING, (0, 1), (2, 3)), apart(RING, (0, 2), (1, 3)),
                   cutting_place(RING, (0, 1), (2, 3))), ([(0, 1), (3, 2)], ((0,), (2,)), None, None))

    def test_ways(self):
        for web in SOME:
            for u, v in itertools.permutations(range(web.many), 2):
                found = ways_told(web, u, v)
                self.same(ways(web, u, v), [way for way, _ in found])
                for way, places in found:
                    self.same(places_along(web, u, list(way)), places)

    def test_order_and_pulls(self):
        web = Web(4, [(2, 3, HALF), (0, 1, HALF), (1, 3, HALF), (0, 2, 0), (2, 0, (-1, 2)), (1, 1, HALF), (3, 1, HALF), (3, 3, 0)])
        self.same(ways(web, 0, 3), [(1, 2), (1, 6), (4, 0)])
        self.same(ways(web, MyInt(3), MyInt(0)), [(0, 4), (2, 1), (6, 1)])
        self.same(ways(Web(2, [(0, 1, 0)]), 0, 1), [])
        ways(web, 0, 3).clear()
        self.same(len(ways(web, 0, 3)), 3)

    def test_most(self):
        for most in (2, 3, MyInt(2000), 10 ** 30):
            self.same(ways(RING, 0, 2, most=most), [(0, 1), (3, 2)])
        self.raises(TooMany(2, 1), ways, RING, 0, 2, most=1)
        self.raises(TooMany(1, 0), ways, RING, 0, 1, most=0)
        self.same(ways(Web(2, []), 0, 1, most=0), [])
        many = Web(4, [(k // 3, k // 3 + 1, HALF) for k in range(9)])
        self.same(len(ways(many, 0, 3)), 27)
        self.raises(TooMany(27, 26), ways, many, 0, 3, most=26)
        with self.assertRaises(TooMany) as held:
            ways(many, 0, 3, most=MyInt(2))
        self.plain([held.exception.many, held.exception.most])
        for most in NO_INTEGERS + (-1, -10 ** 20):
            self.raises(BadCount(), ways, RING, 0, 2, most=most)
            self.raises(BadPlace(), ways, RING, 0, 0, most=most)

    def test_wrong(self):
        for web, many, most in LARGE:
            self.raises(TooMany(many, most), ways, web, None, None, most=None)
        for place in no_places(4):
            self.raises(BadPlace(), ways, RING, place, 0)
            self.raises(BadPlace(), ways, RING, 0, place)
        self.raises(BadPlace(), ways, RING, 3, 3)

    def test_six_and_nine(self):
        self.same(len(ways(LEAN[-2], 0, 5)), len(ways_told(LEAN[-2], 0, 5)))


class TestPlacesAlong(Case):
    def test_known(self):
        ring = Web.ring(*[(-1, 2)] * 10)
        self.same(places_along(ring, MyInt(3), MyList([MyInt(2), 1, 0, 9])), (3, 2, 1, 0, 9))
        self.same(places_along(ring, 9, tuple(range(9))[::-1] + ()), tuple(range(9, -1, -1)))
        self.same(places_along(WIDE, 0, (0,)), (0, 1))

    def test_wrong(self):
        web = Web(4, [(0, 1, HALF), (1, 2, HALF), (2, 0, HALF), (0, 3, 0), (0, 0, HALF), (1, 0, HALF)])
        for place in no_places(4):
            self.raises(BadPlace(), places_along, web, place, None)
        for way in NO_LISTS + ((), [], (4,), (3,), (1,), (0, 5), (0, 0), [0, 1, 2], (0, 2), (6,), (-1,), (0, -5), (0, 6)):
            self.raises(BadBundle(), places_along, web, 0, way)
        for number in NO_INTEGERS:
            self.raises(BadBundle(), places_along, web, 0, (number,))
            self.raises(BadBundle(), places_along, web, 2, [number, 2])
        self.same(places_along(web, 0, (0, 1)), (0, 1, 2))


class TestPairs(Case):
    def test_apart(self):
        for web in SOME:
            for four in fours_of(web.many):
                for pair, other in pairings(four):
                    for one, two in ((pair, other), (other[::-1], pair)):
                        wanted = None
                        for way, places in ways_told(web, *one):
                            seconds = [w for w, met in ways_told(web, *two) if not meet(met, places)]
                            if seconds:
                                wanted = (way, seconds[0])
                                break
                        self.same(apart(web, list(one), two), wanted)

    def test_linked_and_cutting(self):
        for web in SOME:
            for four in fours_of(web.many):
                for pair, other in pairings(four):
                    for one, two in ((pair, other), (other[::-1], pair)):
                        found = linked_told(web, one, two)
                        self.same(linked(web, one, list(two)), found)
                        place = cutting_told(web, one, two)
                        self.same(cutting_place(web, list(one), two), place)
                        self.assertEqual(place is None, found)

    def test_one_of_the_four_cuts(self):
        line = Web.line(HALF, HALF, HALF)
        self.same(cutting_place(line, (0, 1), (2, 3)), 1)
        self.same(cutting_place(line, (3, 2), (0, 1)), 1)
        self.same(cutting_place(line, (0, 3), (1, 2)), None)
        self.same(cutting_place(Web.star(HALF, HALF, HALF, HALF), (1, 2), (3, 4)), 0)
        self.same(cutting_place(Web(4, [(3, 0, HALF), (0, 1, 0)]), (1, 3), (2, 0)), 0)
        self.same(cutting_place(Web(4, [(3, 0, HALF)]), (3, 0), (2, 1)), 0)
        self.same(cutting_place(Web(5, [(3, 4, HALF), (0, 1, 0)]), (3, 1), (2, 4)), 3)
        self.same(linked(Web(4, [(3, 0, HALF)]), (3, 0), (2, 1)), False)
        self.same(cutting_place(Web.line(*[HALF] * 9), (0, 9), (1, 8)), None)
        self.same(cutting_place(Web.line(*[HALF] * 9), [0, 1], [9, 8]), 1)

    def test_ways_through_the_own_pair(self):
        # From 0 only 1 is reached, so both ways would need it.
        web = Web(4, [(0, 1, HALF), (1, 2, HALF), (1, 3, HALF)])
        self.same((linked(web, (0, 1), (2, 3)), cutting_place(web, (0, 1), (2, 3))), (False, 1))
        self.same((linked(web, (0, 2), (1, 3)), apart(web, (0, 2), (1, 3))), (False, None))

    def test_size(self):
        for call in (apart, linked):
            for web, many, most in LARGE:
                self.raises(TooMany(many, most), call, web, None, None)
        self.same(cutting_place(Web.ring(*[HALF] * 10), (0, 5), (2, 7)), None)

    def test_wrong(self):
        wrong = NO_LISTS + ((), (0,), (0, 1, 4), [1, 1], (0, 2), (3, 1), [2, 3]) + tuple((0, p) for p in no_places(5))
        web = Web.star(HALF, HALF, HALF, HALF)
        for call in (apart, linked, cutting_place):
            for pair in wrong:
                self.raises(BadRow(), call, web, pair, (2, 3))
                self.raises(BadRow(), call, web, (2, 3), pair)


class TestCuts(Case):
    def test_cuts(self):
        for web in SOME:
            for u, w in itertools.permutations(range(web.many), 2):
                rows = [places for _, places in ways_told(web, u, w)]
                for x in range(web.many):
                    self.same(cuts(web, x, u, w), all(x in row for row in rows))

    def test_large(self):
        line = Web.line(*[HALF] * 9)
        self.same([cuts(line, x, 2, 5) for x in range(10)], [2 <= x <= 5 for x in range(10)])
        self.same(cuts(line.with_tie(1, 4, HALF), 3, 0, 9), False)

    def test_pulls(self):
        self.same(cuts(Web.ring(HALF, HALF, 0), 1, 0, 2), True)
        self.same(cuts(Web.ring(HALF, HALF, (-1, 9)), 1, 0, 2), False)
        self.same(cuts(Web(4, []), 1, 0, 2), True)

    def test_wrong(self):
        for place in no_places(4):
            self.raises(BadPlace(), cuts, RING, place, 0, 1)
            self.raises(BadPlace(), cuts, RING, 0, place, 1)
            self.raises(BadPlace(), cuts, RING, 0, 1, place)
        self.raises(BadPlace(), cuts, RING, 0, 1, 1)
        self.raises(BadPlace(), cuts, RING, 1, 1, 1)

    def test_cuts_all(self):
        seen = set()
        for web in SOME:
            for four in fours_of(web.many):
                rows = {(u, w): [places for _, places in ways_told(web, u, w)] for u, w in itertools.combinations(four, 2)}
                wanted = next((x for x in range(web.many) if all(
                    x in row for (u, w), found in rows.items() if x not in (u, w) for row in found)), None)
                seen.add(wanted)
                self.same(cuts_all(web, four), wanted)
                self.same(cuts_all(web, list(four[2:] + four[:2])), wanted)
        self.assertTrue({None, 0, 1, 2} <= seen)

    def test_cuts_all_known(self):
        self.same(cuts_all(Web.star(HALF, HALF, HALF, HALF), (4, 1, 3, 2)), 0)
        self.same(cuts_all(Web(5, [(4, k, HALF) for k in range(4)]), (0, 1, 3, 2)), 4)
        self.same(cuts_all(Web(5, [(3, k, HALF) for k in (0, 1, 2)]), (0, 1, 3, 2)), 3)
        self.same(cuts_all(Web.line(HALF, HALF, HALF), (0, 1, 2, 3)), None)
        self.same(cuts_all(Web(10, [(8, k, HALF) for k in (1, 3, 5, 7)]), (1, 3, 5, 7)), 8)
        self.same(cuts_all(Web(10, []), (1, 3, 5, 7)), 0)

    def test_cuts_all_wrong(self):
        for four in no_rows(5, 4):
            self.raises(BadRow(), cuts_all, Web.star(HALF, HALF, HALF, HALF), four)


class TestMeans(Case):
    """Point [66]."""

    def test_three_places(self):
        for web in LEAN:
            told = means_told(web)
            for u, v, w in itertools.permutations(range(web.many), 3):
                if u < w:
                    pair, product = told[(u, w)], told[tuple(sorted((u, v)))] * told[tuple(sorted((v, w)))]
                    self.assertGreaterEqual(pair, product)
                    self.assertEqual(pair == product, cuts(web, v, u, w))

    def test_four_places(self):
        for web in LEAN + (Web.line(HALF, (1, 3)) + Web.ring(HALF, HALF, (1, 3)),):
            told = means_told(web)
            for four in fours_of(web.many):
                for pair, other in pairings(four):
                    self.assertGreaterEqual(told[four], told[pair] * told[other])
                    same = told[four] == told[pair] * told[other]
                    self.assertEqual(same, cutting_place(web, pair, other) is not None)
                    self.assertEqual(same, not linked(web, pair, other))


if __name__ == "__main__":
    unittest.main()
