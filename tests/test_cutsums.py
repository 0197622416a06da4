"""leanwebs.cutsums: point [70]."""

import unittest
from fractions import Fraction

from leanwebs.cutsums import cut_sum, is_cut, least_met, uncut_web
from leanwebs.errors import BadLot, BadPlace
from leanwebs.lots import lots
from leanwebs.webs import Web
from tests.helper import (HALF, LEAN, MIXED, NO_NUMBERS, NOT_BELOW, WIDE, Case, MyInt, fraction, joined_lots, means_told,
                          no_places, ratio, ways_told)

RING = Web.ring(HALF, HALF, HALF, HALF)


def sum_told(told, u, w, lot):
    return sum((told[joined_lots((u,), (c,))] * told[joined_lots((c,), (w,))] for c in lot), Fraction(0))


def met_told(web, lot, u, w):
    rows = [len(set(places) & set(lot)) for _, places in ways_told(web, u, w, by_shape=True)]
    return min(rows, default=None)


def cases(webs):
    return [(web, u, w) for web in webs for u in range(web.many) for w in range(web.many) if u != w]


class TestCutSum(Case):
    def test_example(self):
        self.same((cut_sum(RING, 0, 2, (1, 3)), is_cut(RING, (1,), 0, 2), least_met(RING, (1, 3), 0, 2),
                   least_met(RING, (0, 1, 2), 0, 2)), ((200, 289), False, 1, 2))

    def test_cut_sum(self):
        for web in MIXED + LEAN[:12]:
            told = means_told(web)
            for _, u, w in cases([web]):
                for lot in lots(web.many):
                    self.same(cut_sum(web, u, w, lot[::-1]), ratio(sum_told(told, u, w, lot)))

    def test_known(self):
        self.same(cut_sum(RING, 0, 2, ()), (0, 1))
        self.same(cut_sum(RING, 0, 2, (0,)), (8, 17))
        self.same(cut_sum(RING, MyInt(0), 2, [2, 0]), (16, 17))
        self.same(cut_sum(WIDE, 9, 4, (4, 0, 7)), ratio(sum_told(means_told(WIDE), 9, 4, (0, 4, 7))))

    def test_wrong(self):
        for place in no_places(4):
            self.raises(BadPlace(), cut_sum, RING, place, 0, None)
            self.raises(BadPlace(), cut_sum, RING, 0, place, None)
        self.raises(BadPlace(), cut_sum, RING, 3, 3, None)
        for lot in NO_NUMBERS + ((4,), (0, 4)):
            self.raises(BadLot(), cut_sum, RING, 0, 1, lot)


class TestCuts(Case):
    def test_least_met(self):
        seen = set()
        for web, u, w in cases(MIXED + LEAN):
            for lot in lots(web.many):
                found = met_told(web, lot, u, w)
                seen.add(found)
                self.same(least_met(web, list(lot), u, w), found)
                self.same(is_cut(web, lot[::-1], u, w), found is None or found > 0)
        self.assertTrue({None, 0, 1, 2, 3, 4} <= seen)

    def test_pull_zero_counts(self):
        web = Web.ring(HALF, HALF, 0)
        self.same((is_cut(web, (1,), 0, 2), least_met(web, (1,), 2, 0)), (False, 0))
        self.same((is_cut(Web(3, []), (), 0, 2), least_met(Web(3, []), (0, 1), 0, 2)), (True, None))
        self.same((is_cut(Web(2, [(0, 0, HALF)]), (), 0, 1), least_met(Web(2, [(1, 1, HALF)]), (), 0, 1)), (True, None))

    def test_long_ways(self):
        line = Web.line(*[0] * 9)
        self.same(least_met(line, tuple(range(10)), 0, 9), 10)
        self.same(least_met(line, tuple(range(10)), 9, 0), 10)
        # The ties stand against the order of the way, so that each round brings one place.
        back = Web(10, [(k, k + 1, 0) for k in range(8, -1, -1)])
        self.same(least_met(back, [0, 9, 4], 0, 9), 3)
        self.same(least_met(back, (5,), 9, 0), 1)
        self.same(least_met(line.with_tie(0, 9, 0), tuple(range(1, 9)), 0, 9), 0)
        # The way that is shorter meets more of the lot.
        web = Web(6, [(0, 1, 0), (1, 5, 0), (0, 2, 0), (2, 3, 0), (3, 4, 0), (4, 5, 0)])
        self.same(least_met(web, (1,), 0, 5), 0)
        self.same(least_met(web, (1, 2, 3), 0, 5), 1)

    def test_bound(self):
        for web, u, w in cases([one for one in NOT_BELOW + LEAN if one.many > 1]):
            told = means_told(web)
            for lot in lots(web.many):
                found = met_told(web, lot, u, w)
                if found is not None:
                    self.assertLessEqual(found * told[min(u, w), max(u, w)], sum_told(told, u, w, lot))

    def test_wrong(self):
        for call in (least_met, is_cut, uncut_web):
            for lot in NO_NUMBERS + ((4,), (0, 4)):
                self.raises(BadLot(), call, RING, lot, None, None)
            for place in no_places(4):
                self.raises(BadPlace(), call, RING, (), place, 0)
                self.raises(BadPlace(), call, RING, [1], 0, place)
            self.raises(BadPlace(), call, RING, (1,), 2, 2)


class TestUncut(Case):
    def test_uncut_web(self):
        for web, u, w in cases(MIXED + LEAN):
            for lot in lots(web.many):
                found = uncut_web(web, list(lot), u, w)
                if met_told(web, lot, u, w) != 0:
                    self.assertIsNone(found)
                    continue
                self.assertIs(type(found), Web)
                self.assertEqual(found.shape, web.shape)
                self.assertTrue(all(0 <= p < q < 10 ** 30 for _, _, (p, q) in found.ties))
                if len(lot) < 3:
                    told = means_told(found)
                    self.assertLess(sum_told(told, u, w, lot), told[min(u, w), max(u, w)])

    def test_large(self):
        ring = Web.ring(*[(-1, 2)] * 10)
        found = uncut_web(ring, (1, 2), 0, 5)
        self.assertEqual(found.shape, ring.shape)
        self.assertLess(fraction(cut_sum(found, 0, 5, (1, 2))), means_told(found)[(0, 5)])
        self.same(uncut_web(ring, (1, 9), 0, 5), None)


if __name__ == "__main__":
    unittest.main()
