"""leanwebs.along: points [31] to [33]."""

import unittest
from fractions import Fraction

from leanwebs.along import Along, cross_ratio, fourth
from leanwebs.errors import BadLot, BadRatio, BadRow, BadTable, BadTie, Level, OddLot
from leanwebs.lots import even_lots
from leanwebs.sums import mean
from leanwebs.webs import Web
from tests.helper import (HALF, MIXED, NO_INTEGERS, NO_NUMBERS, NO_RATIOS, WIDE, Case, MyInt, fraction, joined_lots,
                          mean_of, ratio)

RING = Web.ring(HALF, HALF, (1, 3))
PULLS = (0, (1, 3), (-2, 3), [3, 4], (-1, 10))
NO_PULLS = NO_RATIOS + (1, -1, (3, 3), (-5, 5), (3, 2), -7)
NO_ROWS = (None, 0, "abcd", {0: 0, 1: 1, 2: 2, 3: 3}, (), (0, HALF, (1, 3)), [0, HALF, (1, 3), (1, 4), (1, 5)])


def cross_told(numbers):
    one, two, three, four = numbers
    return (one - three) * (two - four) / ((one - four) * (two - three))


class TestAlong(Case):
    def test_example(self):
        one = Along(RING, 2, (0, 1))
        self.same((one((1, 3)), one.slope(0), one.course, one.cross([0, (1, 2), (-1, 2), (1, 3)])),
                  ((8, 13), (3, 8), "rises", (-1, 4)))
        self.same((one.a, one.b, one.c), ((1, 2), (1, 2), (1, 4)))

    def test_values(self):
        for web in MIXED:
            for number, (u, v, _) in enumerate(web.ties):
                rest = web.without((number,))
                for lot in even_lots(web.many):
                    along = Along(web, number, lot[::-1])
                    self.same(along.a, ratio(mean_of(rest, lot)))
                    self.same(along.b, ratio(mean_of(rest, joined_lots(lot, (u,), (v,)))))
                    self.same(along.c, ratio(mean_of(rest, joined_lots((u,), (v,)))))
                    for pull in PULLS:
                        self.same(along(pull), mean(web.with_pull(number, pull), lot))
                        self.assertGreater(1 + fraction(along.c) * fraction(ratio(Fraction(*self.two(pull)))), 0)

    def two(self, pull):
        return (pull, 1) if isinstance(pull, int) else tuple(pull)

    def test_slope_and_course(self):
        for web in MIXED:
            for number, (u, v, _) in enumerate(web.ties):
                for lot in even_lots(web.many):
                    along = Along(web, number, list(lot))
                    low, high = fraction(along((-1, 3))), fraction(along(HALF))
                    self.assertEqual(along.course, "rises" if low < high else "falls" if low > high else "stays")
                    for pull in PULLS:
                        t = Fraction(*self.two(pull))
                        there = web.with_pull(number, pull)
                        pair = joined_lots((u,), (v,))
                        wanted = fraction(mean(there, joined_lots(lot, pair)))
                        wanted -= fraction(mean(there, lot)) * fraction(mean(there, pair))
                        self.same(along.slope(pull), ratio(wanted / (1 - t * t)))

    def test_course(self):
        self.same([Along(Web.ring(HALF, t, (1, 5)), 0, (0, 1)).course for t in (HALF, 0, (-1, 2))], ["rises"] * 3)
        self.same(Along(Web.ring(HALF, (-1, 2), (1, 5)), 0, (1, 2)).course, "rises")
        self.same(Along(Web.ring(HALF, HALF, (-1, 5)), 0, (1, 2)).course, "falls")
        self.same(Along(Web.line(HALF, HALF), 0, (1, 2)).course, "stays")
        self.same(Along(Web(1, [(0, 0, HALF)]), 0, ()).course, "stays")
        self.same(Along(RING, 0, ()).course, "stays")

    def test_loop(self):
        web = RING.with_tie(1, 1, HALF)
        along = Along(web, 3, [1, 0])
        self.same((along.a, along.b, along.c, along((1, 9)), along.slope(HALF)), ((8, 13), (8, 13), (1, 1), (8, 13), (0, 1)))

    def test_the_pull_of_the_web_does_not_matter(self):
        one, other = Along(RING, 2, (0, 1)), Along(RING.with_pull(2, (-3, 4)), MyInt(2), (0, 1))
        self.same((one.a, one.b, one.c), (other.a, other.b, other.c))

    def test_wide(self):
        self.same(Along(WIDE, 3, (0, 5))((1, 7)), mean(WIDE.with_pull(3, (1, 7)), (0, 5)))

    def test_cross(self):
        pulls = [(1, 3), (-2, 3), (6, 8), [0, 2]]
        wanted = ratio(cross_told([Fraction(*pull) for pull in pulls]))
        for web in MIXED:
            for number in range(len(web.ties)):
                for lot in even_lots(web.many):
                    along = Along(web, number, lot)
                    if along.course == "stays":
                        self.raises(Level(), along.cross, pulls)
                    else:
                        self.same(along.cross(pulls), wanted)
                        self.same(cross_ratio([along(pull) for pull in pulls]), wanted)
                        points = [(pull, along(pull)) for pull in pulls[:3]]
                        for pull in PULLS:
                            self.same(fourth(points, pull), along(pull))

    def test_wrong_making(self):
        for number in NO_INTEGERS + (-1, 3, 10 ** 20):
            self.raises(BadTie(number), Along, RING, number, None)
        for lot in NO_NUMBERS + ((3,), (0, 3)):
            self.raises(BadLot(), Along, RING, 0, lot)
        for lot in ((0,), [2, 1, 0]):
            self.raises(OddLot(), Along, RING, 0, lot)

    def test_wrong_pulls(self):
        along, level = Along(RING, 2, (0, 1)), Along(RING, 0, ())
        for pull in NO_PULLS:
            self.raises(BadRatio(), along, pull)
            self.raises(BadRatio(), along.slope, pull)
            self.raises(BadRatio(), level, pull)
            self.raises(BadRatio(), level.slope, pull)
            self.raises(BadRatio(), along.cross, [0, HALF, (1, 3), pull])
            self.raises(BadRatio(), level.cross, [pull, 0, 0, 0])
        for row in NO_ROWS:
            self.raises(BadRow(), along.cross, row)
            self.raises(BadRow(), level.cross, row)
        self.raises(BadRow(), along.cross, (0, HALF, (1, 3), [2, 4]))
        self.raises(BadRow(), level.cross, (0, HALF, (1, 3), (0, 7)))
        self.raises(Level(), level.cross, (0, HALF, (1, 3), (1, 7)))


class TestCrossRatio(Case):
    def test_cross_ratio(self):
        self.same(cross_ratio([0, 1, 2, 3]), (4, 3))
        self.same(cross_ratio((5, [-7, 2], (100, 4), -3)), ratio(cross_told([5, Fraction(-7, 2), Fraction(25), -3])))
        self.same(cross_ratio((0, HALF, (-1, 2), (1, 3))), (-1, 4))

    def test_wrong(self):
        for row in NO_ROWS:
            self.raises(BadRow(), cross_ratio, row)
        for value in NO_RATIOS:
            self.raises(BadRatio(), cross_ratio, [value, 1, 1, 1])
            self.raises(BadRatio(), cross_ratio, [1, 1, 1, value])
        for row in ((1, 2, 3, 1), [HALF, 2, [4, 8], 5], (0, 1, 5, (10, 2))):
            self.raises(BadRow(), cross_ratio, row)


class TestFourth(Case):
    def test_values(self):
        points = [(0, 1), ([1, 1], (1, 2)), (2, [1, 3])]
        # The function is 1/(1 + x).
        self.same([fourth(points, x) for x in (0, 1, 2, 3, HALF, (-1, 2), [-6, 2])],
                  [(1, 1), (1, 2), (1, 3), (1, 4), (2, 3), (2, 1), (-1, 2)])
        self.raises(BadTable(-1), fourth, points, -1)
        self.raises(BadTable(-1), fourth, points, (-3, 3))

    def test_straight(self):
        points = ((0, 5), (1, 7), (2, 9))
        self.same([fourth(points, x) for x in (3, -1, (1, 2), 2, -100)], [(11, 1), (3, 1), (6, 1), (9, 1), (-195, 1)])

    def test_all_functions(self):
        for p, q, r, s in ((1, 2, 3, 4), (0, 1, 1, 0), (2, -1, 1, 1), (5, 0, 1, -2), (-3, 7, 2, 1), (1, 1, 5, 0)):
            def f(x):
                return (p + q * x) / (r + s * x)

            xs = [Fraction(k, 3) for k in range(-7, 8) if r + s * Fraction(k, 3)]
            points = [(ratio(x), ratio(f(x))) for x in xs[:3]]
            for x in xs:
                self.same(fourth(points, ratio(x)), ratio(f(x)))
            if s:
                self.raises(BadTable(-1), fourth, points, ratio(Fraction(-r, s)))

    def test_level(self):
        points = [(0, HALF), (1, [2, 4]), ((5, 2), (3, 6))]
        self.same([fourth(points, x) for x in (0, 7, (1, 3))], [(1, 2)] * 3)
        for pull in NO_RATIOS:
            self.raises(BadRatio(), fourth, points, pull)

    def test_wrong_points(self):
        for points in (None, 0, "abc", (), ((0, 0), (1, 1)), ((0, 0), (1, 1), (2, 2), (3, 3)), {0: 0, 1: 1, 2: 2},
                       (0, 1, 2), ((0, 0), (1, 1), 2), ((0, 0), (1, 1, 1), (2, 2)), ((0, "x"), (1, 1), (2,)),
                       ((0, 0), (1, 1), {2: 2, 3: 3}), ((0, 0), None, (2, 2))):
            self.raises(BadRow(), fourth, points, None)
        for value in NO_RATIOS:
            self.raises(BadRatio(), fourth, [(0, 0), (0, 0), (value, 0)], None)
            self.raises(BadRatio(), fourth, [(0, value), (0, 0), (0, 0)], None)
        self.raises(BadRow(), fourth, [(0, 0), (1, 0), ((0, 2), 0)], None)
        self.raises(BadRow(), fourth, [(0, 0), (HALF, 5), ([2, 4], 0)], None)

    def test_like_values(self):
        self.raises(BadTable(1), fourth, [(0, 1), (1, 1), (2, 5)], None)
        self.raises(BadTable(2), fourth, [(0, 1), (1, 5), (2, 1)], None)
        self.raises(BadTable(2), fourth, [(0, 1), (1, HALF), (2, [2, 4])], None)

    def test_wrong_pull(self):
        for pull in NO_RATIOS:
            self.raises(BadRatio(), fourth, [(0, 1), (1, 2), (2, 3)], pull)


if __name__ == "__main__":
    unittest.main()
