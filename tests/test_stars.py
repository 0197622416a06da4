"""leanwebs.stars: points [49] to [52]."""

import itertools
import unittest
from fractions import Fraction

from leanwebs.errors import Apart, BadRatio, BadRow, BadTable, NotPositive
from leanwebs.spreads import Spread, spread_of_means, squares
from leanwebs.stars import (double_pull, four_star, square_of_double, star_means, star_squares, triangle_doubles,
                            triangle_squares)
from leanwebs.webs import Web
from tests.helper import (HALF, LEAN, NO_RATIOS, Case, fraction, hangs_told, means_told, no_rows, product, ratio)

MEANS = (0, HALF, (-1, 2), (1, 3), (-1, 4), (2, 3), (1, 6), (-9, 10))
ARMS = ((0, 1), (1, 2), (-1, 3), (2, 3), (-4, 5), (1, 10))
NO_PULLS = NO_RATIOS + (1, -1, (2, 2), (-5, 4), 3)


def sums_told(means):
    a, b, c = [Fraction(*one) if isinstance(one, (tuple, list)) else Fraction(one) for one in means]
    return (1 + a + b + c, 1 + a - b - c, 1 - a + b - c, 1 - a - b + c)


def first_low(means):
    for at, one in enumerate(sums_told(means)):
        if one <= 0:
            return at
    return None


class TestTriangles(Case):
    def test_example(self):
        means = ((1, 4), (1, 6), (1, 6))
        self.same((star_squares(*means), triangle_doubles(HALF, HALF, (1, 3)), triangle_squares(*means)[0]),
                  (((1, 4), (1, 4), (1, 9)), ((64, 145), (4, 15), (4, 15)), (209, 81)))

    def test_squares(self):
        for means in itertools.product(MEANS, repeat=3):
            low = first_low(means)
            if low is not None:
                self.raises(BadTable(low), triangle_squares, *means)
                self.raises(BadTable(low), star_squares, *means)
                continue
            spread = spread_of_means(3, [((0, 1), means[0]), ((0, 2), means[1]), ((1, 2), means[2])])
            found = triangle_squares(*means)
            self.same(found, tuple(box for _, box in squares(spread)))
            for (u, v), box in zip(((0, 1), (0, 2), (1, 2)), found):
                rest = product([fraction(spread.mean((u, 3 - u - v))), fraction(spread.mean((v, 3 - u - v)))])
                mean = fraction(spread.mean((u, v)))
                self.assertEqual((mean > rest) - (mean < rest), (fraction(box) > 1) - (fraction(box) < 1))

    def test_each_sum(self):
        for means, at in (((-1, 0, 0), 0), (((-1, 3),) * 3, 0), ((0, 1, 0), 1), (((-1, 3), (1, 3), [2, 6]), 1), ((1, 0, 0), 2),
                          (((1, 2), (-1, 2), (1, 2)), 2), ((HALF, HALF, (-1, 2)), 3), ((5, -5, 100), 1),
                          ((100, 100, -1000), 0), ((-1, -1, 10), 1)):
            self.assertEqual(first_low(means), at)
            for call in (triangle_squares, star_squares):
                self.raises(BadTable(at), call, *means)

    def test_wrong(self):
        for call in (triangle_squares, star_squares):
            for value in NO_RATIOS:
                for at in range(3):
                    self.raises(BadRatio(), call, *[value if at == k else -5 for k in range(3)])


class TestThreeStars(Case):
    def test_star_squares(self):
        seen = set()
        for means in itertools.product(MEANS, repeat=3):
            if first_low(means) is None:
                found = star_squares(*means)
                a, b, c = [Fraction(*one) if isinstance(one, tuple) else Fraction(one) for one in means]
                zeros = (a, b, c).count(0)
                seen.add((zeros, found is None))
                if zeros == 3:
                    wanted = (0, 0, 0)
                elif zeros == 2:
                    wanted = (abs(a + b), abs(a + c), abs(b + c))
                elif a * b * c > 0 and abs(a) > abs(b * c) and abs(b) > abs(a * c) and abs(c) > abs(a * b):
                    wanted = (a * b / c, a * c / b, b * c / a)
                else:
                    wanted = None
                self.same(found, wanted and tuple(ratio(one) for one in wanted))
                if wanted:
                    x, y, z = wanted
                    self.assertEqual((x * y, x * z, y * z), (a * a, b * b, c * c))
                    self.assertTrue(all(0 <= one < 1 for one in wanted))
        self.assertEqual(seen, {(3, False), (2, False), (1, True), (0, False), (0, True)})

    def test_known(self):
        self.same(star_squares(0, [-2, 4], 0), ((1, 2), (0, 1), (1, 2)))
        self.same(star_squares(0, 0, (1, 3)), ((0, 1), (1, 3), (1, 3)))
        self.same(star_squares(0, HALF, (1, 3)), None)
        # Just equal to the product of the two others.
        self.same(star_squares((1, 4), HALF, HALF), None)
        self.same(star_squares((26, 100), HALF, HALF), ((13, 50), (13, 50), (25, 26)))
        self.same(star_squares((-1, 4), (-1, 4), (-1, 4)), None)

    def test_means(self):
        for arms in itertools.product(ARMS, repeat=3):
            t1, t2, t3 = [fraction(one) for one in arms]
            found = star_means(*arms)
            self.same(found, tuple(ratio(one) for one in (t1 * t2, t1 * t3, t2 * t3)))
            rest = Spread.of(Web.star(*arms)).left_out((0,))
            self.same(found, (rest.mean((0, 1)), rest.mean((0, 2)), rest.mean((1, 2))))
            if t1 * t2 * t3:
                self.same(star_squares(*found), tuple(ratio(t * t) for t in (t1, t2, t3)))
        self.same(star_means([2, 4], 0, [3, 9]), ((0, 1), (1, 6), (0, 1)))

    def test_cut(self):
        """Point [50]: in a positive web there is a three-star exactly if no one of the three cuts the others."""
        for web in LEAN:
            told = means_told(web)
            for three in itertools.combinations(range(web.many), 3):
                means = [told[pair] for pair in itertools.combinations(three, 2)]
                cutting = []
                for x in three:
                    u, w = [place for place in three if place != x]
                    rest = web.without([k for k, tie in enumerate(web.ties) if x in tie[:2]])
                    ends = [place for place in range(web.many) if place != x]
                    if not self.joined_in(rest, ends, u, w):
                        cutting.append(x)
                        self.assertEqual(told[min(u, w), max(u, w)],
                                         told[tuple(sorted((u, x)))] * told[tuple(sorted((x, w)))])
                self.assertEqual(star_squares(*[ratio(one) for one in means]) is None, bool(cutting))

    def joined_in(self, web, places, u, w):
        return any(hangs_told(web, [u, w] + list(some)) for size in range(len(places))
                   for some in itertools.combinations([p for p in places if p not in (u, w)], size))


class TestDoubles(Case):
    def test_triangle_doubles(self):
        for arms in itertools.product(ARMS, repeat=3):
            t1, t2, t3 = [fraction(one) for one in arms]
            wanted = []
            for x, y, z in ((t1, t2, t3), (t1, t3, t2), (t2, t3, t1)):
                wanted.append(2 * x * y * (1 - z ** 2) / (1 + x * x * y * y - x * x * z * z - y * y * z * z))
            found = triangle_doubles(*arms)
            self.same(found, tuple(ratio(one) for one in wanted))
            rest = Spread.of(Web.star(*arms)).left_out((0,))
            boxes = tuple(box for _, box in squares(rest))
            self.same(tuple(square_of_double(one) for one in found), boxes)
            self.same(triangle_squares(*star_means(*arms)), boxes)
        self.same(triangle_doubles([2, 4], [3, 6], [3, 9]), ((64, 145), (4, 15), (4, 15)))

    def test_double_pull(self):
        self.same([double_pull(t) for t in (0, HALF, [-2, 4], (1, 3))], [(0, 1), (4, 5), (-4, 5), (3, 5)])
        self.same([square_of_double(t) for t in (0, HALF, [-2, 4], (1, 3))], [(1, 1), (3, 1), (1, 3), (2, 1)])
        for arm in ARMS:
            t = fraction(arm)
            self.same(double_pull(arm), ratio(2 * t / (1 + t * t)))
            self.same(square_of_double(double_pull(arm)), ratio(((1 + t) / (1 - t)) ** 2))

    def test_wrong(self):
        for value in NO_PULLS:
            for call in (double_pull, square_of_double):
                self.raises(BadRatio(), call, value)
            for call in (star_means, triangle_doubles):
                for at in range(3):
                    self.raises(BadRatio(), call, *[value if at == k else HALF for k in range(3)])


class TestFourStars(Case):
    def test_four_stars(self):
        seen = set()
        for web in LEAN:
            told = means_told(web)
            for four in itertools.combinations(range(web.many), 4):
                for order in (four, four[::-1], (four[1], four[3], four[0], four[2])):
                    a, b, c, d = order
                    m = {(x, y): told[tuple(sorted((x, y)))] for x in order for y in order if x != y}
                    parts = {m[a, b] * m[c, d], m[a, c] * m[b, d], m[a, d] * m[b, c], told[four]}
                    found = four_star(web, list(order))
                    seen.add(found is None)
                    if len(parts) > 1:
                        self.assertIsNone(found)
                    else:
                        self.same(found, tuple(ratio(one) for one in (
                            m[a, b] * m[a, c] / m[b, c], m[a, b] * m[b, d] / m[a, d], m[c, d] * m[b, c] / m[b, d],
                            m[d, c] * m[d, a] / m[c, a])))
                        squares_told = [fraction(one) for one in found]
                        self.assertTrue(all(0 < one <= 1 for one in squares_told))
                        for (i, one), (j, two) in itertools.combinations(list(enumerate(squares_told)), 2):
                            self.assertEqual(one * two, m[order[i], order[j]] ** 2)
                        self.assertEqual(product(squares_told), told[four] ** 2)
        self.assertEqual(seen, {True, False})

    def test_known(self):
        star = Web.star(HALF, (1, 3), (1, 5))
        self.same(four_star(star, (0, 1, 2, 3)), ((1, 1), (1, 4), (1, 9), (1, 25)))
        self.same(four_star(star, [3, 0, 2, 1]), ((1, 25), (1, 1), (1, 9), (1, 4)))
        self.same(four_star(Web.star(HALF, HALF, HALF, (1, 3)), (1, 2, 3, 4)), ((1, 4), (1, 4), (1, 4), (1, 9)))
        self.same(four_star(Web.ring(HALF, HALF, HALF, HALF), (0, 1, 2, 3)), None)
        self.same(four_star(Web.line(HALF, HALF, HALF), (0, 1, 2, 3)), None)

    def test_wrong(self):
        self.raises(NotPositive(1), four_star, Web(4, [(0, 1, HALF), (1, 2, 0), (2, 2, (-1, 2))]), None)
        self.raises(NotPositive(0), four_star, Web(2, [(0, 0, (-1, 2))]), None)
        self.raises(Apart(), four_star, Web(4, [(0, 1, HALF), (2, 3, HALF)]), None)
        for four in no_rows(5, 4):
            self.raises(BadRow(), four_star, Web.star(HALF, HALF, HALF, HALF), four)
        self.raises(BadRow(), four_star, Web.line(HALF, HALF), (0, 1, 2, 3))


if __name__ == "__main__":
    unittest.main()
