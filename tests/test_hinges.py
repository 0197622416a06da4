"""leanwebs.hinges: point [84]."""

import itertools
import unittest

from leanwebs.errors import BadRow
from leanwebs.fours import four_of
from leanwebs.hinges import by_way_of, lean_gap, parts_three
from leanwebs.sums import mean
from leanwebs.webs import Web
from tests.helper import (HALF, LEAN, MIXED, WIDE, Case, MyInt, MyList, fraction, means_told, no_places, no_rows, parts_of,
                          ratio)

RING = Web.ring(HALF, HALF, HALF, HALF)


def cases(webs):
    return [(web, four[0], four[1:]) for web in webs for four in itertools.permutations(range(web.many), 4)]


def parted(web, hinge, three):
    pairs = [(u, v) for u, v, t in web.ties if hinge not in (u, v) and t != (0, 1)]
    blocks = parts_of([place for place in range(web.many) if place != hinge], pairs)
    return not any(set(three) <= set(block) for block in blocks)


class TestHinges(Case):
    def test_example(self):
        self.same((by_way_of(RING, 0, (1, 2, 3)), lean_gap(RING, 0, (1, 2, 3)), parts_three(RING, 0, (1, 2, 3))),
                  ((800, 4913), (-576, 4913), False))

    def test_by_way_of(self):
        for web in MIXED + LEAN[:14]:
            told = means_told(web)
            for _, f, three in cases([web]):
                wanted = 1
                for place in three:
                    wanted *= told[tuple(sorted((f, place)))]
                self.same(by_way_of(web, f, list(three)), ratio(wanted))

    def test_parts_three(self):
        for web, f, three in cases(MIXED + LEAN):
            self.same(parts_three(web, f, three), parted(web, f, three))
            self.same(parts_three(web, f, list(three[::-1])), parted(web, f, three))

    def test_parts_known(self):
        self.same(parts_three(Web.star(HALF, HALF, HALF), 0, (1, 2, 3)), True)
        self.same(parts_three(Web.line(HALF, HALF, HALF), 0, (1, 2, 3)), False)
        self.same(parts_three(Web.line(HALF, HALF, HALF), 1, (0, 2, 3)), True)
        self.same(parts_three(Web.ring(HALF, HALF, 0, HALF), 0, (1, 2, 3)), True)
        self.same(parts_three(Web.ring(HALF, HALF, (-1, 9), HALF), 0, (1, 2, 3)), False)
        self.same(parts_three(Web.ring(*[HALF] * 10), 5, (1, 2, 9)), False)

    def test_lean_gap(self):
        for web in MIXED + LEAN[:14]:
            for _, f, three in cases([web]):
                if three == tuple(sorted(three)):
                    u, v, w = three

                    def m(*places):
                        return fraction(mean(web, places, floor=f))

                    wanted = m(u, v, w) - m(u) * m(v, w) - m(v) * m(u, w) - m(w) * m(u, v) + 2 * m(u) * m(v) * m(w)
                    self.same(lean_gap(web, f, list(three)), ratio(wanted))
                    self.same(lean_gap(web, f, (w, u, v)), ratio(wanted))
                    knot = four_of(web, (f,) + three).knot
                    self.assertEqual(wanted, 2 * fraction(by_way_of(web, f, three)) - 2 * fraction(knot))

    def test_positive(self):
        for web, f, three in cases(LEAN):
            knot, way = fraction(four_of(web, (f,) + three).knot), fraction(by_way_of(web, f, three))
            self.assertGreaterEqual(knot, way)
            self.assertEqual(knot == way, parts_three(web, f, three))
            gap = lean_gap(web, f, three)
            self.assertLessEqual(gap[0], 0)
            self.assertEqual(gap == (0, 1), parts_three(web, f, three))

    def test_wide(self):
        told = means_told(WIDE)
        found = by_way_of(WIDE, MyInt(7), MyList([MyInt(2), 9, 4]))
        self.same(found, ratio(told[(2, 7)] * told[(7, 9)] * told[(4, 7)]))

    def test_wrong(self):
        web = Web(5, [])
        for call in (by_way_of, parts_three, lean_gap):
            for hinge in no_places(5):
                self.raises(BadRow(), call, web, hinge, (0, 1, 2))
            for three in no_rows(5, 3):
                self.raises(BadRow(), call, web, 4, three)
            self.raises(BadRow(), call, web, 1, (0, 1, 2))
            self.raises(BadRow(), call, web, 2, [0, 1, 2])


if __name__ == "__main__":
    unittest.main()
