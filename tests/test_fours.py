"""leanwebs.fours: points [76] and [79]."""

import itertools
import unittest
from fractions import Fraction

from leanwebs.errors import BadPlace, BadRow, BadTable
from leanwebs.fours import Four, four_in, four_of, greatest_product, is_cut_two
from leanwebs.spreads import Spread, spread_of_means
from leanwebs.ways import apart, cuts_all, cutting_place
from leanwebs.webs import Web
from tests.helper import (HALF, LEAN, MIXED, NO_INTEGERS, NO_LISTS, NO_RATIOS, WIDE, Case, MyInt, MyList, MyTuple,
                          fours_of, fraction, means_told, no_rows, ratio)

RING = Web.ring(HALF, HALF, HALF, HALF)
TABLES = ((0, 0, 0, 0, 0, 0, 0), (HALF, (1, 3), (-1, 4), (2, 5), (3, 7), (-5, 6), (1, 9)), (5, -7, (9, 2), 1, 0, -1, 100),
          [[2, 4], [-3, 9], 0, [4, 4], (7, 7), (10, 5), [6, -2][:1] + [4]])


def numbers_told(seven):
    ab, ac, ad, bc, bd, cd, m = seven
    p, q, r = ab * cd, ac * bd, ad * bc
    return (m, (p, q, r), ((m + p - q - r) / 2, (m + q - p - r) / 2, (m + r - p - q) / 2), (p + q + r - m) / 2)


def seven_told(told, four):
    pairs = [tuple(sorted(pair)) for pair in itertools.combinations(four, 2)]
    return [told[pair] for pair in pairs] + [told[tuple(sorted(four))]]


class FourCase(Case):
    def check(self, four, seven):
        whole, products, links, knot = numbers_told([Fraction(one) for one in seven])
        self.assertIs(type(four), Four)
        self.same(four.means, tuple(ratio(one) for one in seven))
        self.same(four.whole, ratio(whole))
        self.same(four.products, tuple(ratio(one) for one in products))
        self.same(four.links, tuple(ratio(one) for one in links))
        self.same(four.knot, ratio(knot))
        self.assertEqual(whole, sum(fraction(one) for one in four.links) + fraction(four.knot))
        for product, link in zip(four.products, four.links):
            self.assertEqual(fraction(product), fraction(four.knot) + fraction(link))
        self.same(greatest_product(four), ratio(max(products)))
        self.same(is_cut_two(four), whole == max(products))


class TestFour(FourCase):
    def test_tables(self):
        for table in TABLES:
            seven = [Fraction(*one) if isinstance(one, (tuple, list)) else Fraction(one) for one in table]
            self.check(Four(table), seven)
            self.check(Four(tuple(table)), seven)
            self.check(Four(list(table)), seven)

    def test_kinds(self):
        four = Four(MyList([MyInt(1), MyTuple([MyInt(2), MyInt(4)])] + [0] * 5))
        self.check(four, [Fraction(1), Fraction(1, 2)] + [Fraction(0)] * 5)

    def test_later_changes(self):
        table = [[1, 2], 0, 0, 0, 0, 0, 0]
        four = Four(table)
        table[0][1] = 3
        table[6] = 1
        self.same((four.means[0], four.whole), ((1, 2), (0, 1)))

    def test_by_way(self):
        for table in TABLES:
            four = Four(table)
            ab, ac, ad, bc, bd, cd = [fraction(one) for one in four.means[:6]]
            wanted = (ab * ac * ad, ab * bc * bd, ac * bc * cd, ad * bd * cd)
            self.same(tuple(four.by_way(k) for k in range(4)), tuple(ratio(one) for one in wanted))
            self.same(four.by_way(MyInt(3)), ratio(wanted[3]))

    def test_by_way_wrong(self):
        for k in NO_INTEGERS + (-1, 4, 10 ** 20):
            self.raises(BadPlace(), Four(TABLES[1]).by_way, k)

    def test_swapped(self):
        for table in TABLES:
            four = Four(table)
            told = dict(zip(itertools.combinations(range(4), 2), [fraction(one) for one in four.means]))
            told[(0, 1, 2, 3)] = fraction(four.whole)
            for order in itertools.permutations(range(4)):
                self.check(four.swapped(order), seven_told(told, order))
                self.same(four.swapped(list(order)).means, four.swapped(order).means)
        self.same(Four(TABLES[1]).swapped([2, 0, 1, 3]).means,
                  ((1, 3), (2, 5), (-5, 6), (1, 2), (-1, 4), (3, 7), (1, 9)))

    def test_swapped_wrong(self):
        for order in no_rows(4, 4) + [(1, 2, 3, 4), (0, 1, 2)]:
            self.raises(BadRow(), Four(TABLES[1]).swapped, order)

    def test_wrong(self):
        for seven in NO_LISTS + ((), (0,) * 6, [0] * 8, [None] * 6):
            self.raises(BadTable(-1), Four, seven)
        for value in NO_RATIOS:
            for at in range(7):
                self.raises(BadTable(at), Four, [1] * at + [value] * (7 - at))


class TestFourOf(FourCase):
    def test_webs_and_spreads(self):
        for web in MIXED + LEAN:
            told = means_told(web)
            for four in fours_of(web.many):
                for order in (four, four[::-1], (four[2], four[0], four[3], four[1])):
                    self.check(four_of(web, list(order)), seven_told(told, order))
                    self.check(four_in(Spread.of(web), order), seven_told(told, order))

    def test_all_orders(self):
        for order in itertools.permutations(range(4)):
            self.assertEqual(four_of(RING, order).means, four_of(RING, (0, 1, 2, 3)).swapped(order).means)

    def test_wide(self):
        self.check(four_of(WIDE, [9, 0, 4, 2]), seven_told(means_told(WIDE), (9, 0, 4, 2)))

    def test_left_out(self):
        for web in LEAN:
            if web.many == 5:
                rest = Spread.of(web).left_out((2,))
                self.same(four_in(rest, (3, 0, 2, 1)).means, four_of(web, (4, 0, 3, 1)).means)

    def test_any_spread(self):
        spread = spread_of_means(4, [((0, 1), (1, 4)), ((2, 3), (-1, 3)), ((0, 1, 2, 3), (1, 5))])
        self.same(four_in(spread, [1, 0, 3, 2]).means, ((1, 4), (0, 1), (0, 1), (0, 1), (0, 1), (-1, 3), (1, 5)))

    def test_wrong(self):
        for four in no_rows(5, 4):
            self.raises(BadRow(), four_of, Web(5, []), four)
            self.raises(BadRow(), four_in, Spread.of(Web(5, [])), four)


class TestLinks(Case):
    """Point [79]."""

    def test_links(self):
        for web in LEAN:
            for four in fours_of(web.many):
                a, b, c, d = four
                found = four_of(web, four)
                pairs = (((a, b), (c, d)), ((a, c), (b, d)), ((a, d), (b, c)))
                for link, (pair, other) in zip(found.links, pairs):
                    self.assertGreaterEqual(link[0], 0)
                    self.assertEqual(link[0] > 0, apart(web, pair, other) is not None)
                self.assertGreater(found.knot[0], 0)
                none = all(link == (0, 1) for link in found.links)
                self.assertEqual(none, cuts_all(web, four) is not None)
                self.assertEqual(none, set(found.products) == {found.whole})
                self.assertEqual(found.whole == found.products[0], found.links[1] == found.links[2] == (0, 1))
                cut = any(cutting_place(web, pair, other) is not None for pair, other in pairs)
                self.assertEqual(is_cut_two(found), cut)

    def test_example(self):
        four = four_of(RING, (0, 1, 2, 3))
        self.same((four.links, four.knot), (((36, 289), (0, 1), (36, 289)), (64, 289)))


if __name__ == "__main__":
    unittest.main()
