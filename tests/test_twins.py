"""leanwebs.twins: points [126], [128] and [129]."""

import unittest
from fractions import Fraction

from leanwebs.errors import BadBundle, BadRatio, TooMany
from leanwebs.layings import Laying, plain_laying
from leanwebs.sums import total
from leanwebs.twins import contrary_total, twin_factor, twin_pull, two_sides
from leanwebs.webs import Web
from tests.helper import (HALF, LAID, NO_NUMBERS, NO_RATIOS, Case, MyInt, MyTuple, all_subsets, fraction, layings_of,
                          product, pulls_of, ratio, total_of)

THREE = Web(2, [(0, 1, HALF), (0, 1, (1, 3)), (0, 1, (1, 5))])
NO_PULLS = NO_RATIOS + (0, 1, -1, (0, 3), (2, 2), (-1, 2), (3, 2), [4, 3])


class TestPulls(Case):
    def test_values(self):
        for q in range(2, 12):
            for p in range(1, q):
                t = Fraction(p, q)
                self.same(twin_pull([3 * p, 3 * q]), ratio((1 - t) / (1 + t)))
                self.same(twin_pull(twin_pull((p, q))), ratio(t))
                a, b = [fraction(one) for one in two_sides((p, q))]
                self.same(two_sides([2 * p, 2 * q]), (ratio(2 * t / (1 + t * t)), ratio((1 - t * t) / (1 + t * t))))
                self.assertEqual(a * a + b * b, 1)
                self.same(two_sides(twin_pull((p, q))), (ratio(b), ratio(a)))

    def test_known(self):
        self.same((twin_pull(HALF), twin_pull(MyTuple((MyInt(1), 3))), two_sides(HALF)), ((1, 3), HALF, ((4, 5), (3, 5))))

    def test_wrong(self):
        for call in (twin_pull, two_sides):
            for pull in NO_PULLS:
                self.raises(BadRatio(), call, pull)


class TestFactor(Case):
    def test_values(self):
        for web in LAID:
            for laying in layings_of(web, 2):
                wanted = product(1 + t for t in pulls_of(web)) * Fraction(2) ** (web.many - len(web.ties) - 1)
                self.same(twin_factor(laying), ratio(wanted))
                first = fraction(contrary_total(laying, ())) * wanted
                self.assertLessEqual(first, fraction(total(web)))
                self.same(first == fraction(total(web)), laying.plane)

    def test_known(self):
        self.same(twin_factor(plain_laying(Web.line(HALF))), (3, 2))
        self.same(twin_factor(plain_laying(Web(1, [(0, 0, HALF)] * 10))), (3 ** 10, 2 ** 20))


class TestContraryTotal(Case):
    def test_values(self):
        for web in LAID:
            for laying in layings_of(web, 2):
                twin = laying.twin().web
                cuts = {laying.cut(lot) for lot in all_subsets(range(len(laying.faces)))}
                whole = contrary_total(laying, ())
                self.same(whole, total(twin))
                for bundle in all_subsets(range(len(web.ties)))[::7]:
                    turned = Web(twin.many, [(u, v, (-t[0], t[1]) if k in bundle else t)
                                             for k, (u, v, t) in enumerate(twin.ties)])
                    found = contrary_total(laying, list(bundle[::-1]))
                    self.same(found, ratio(total_of(turned)))
                    self.assertTrue(0 < fraction(found) <= fraction(whole))
                    self.same(found == whole, bundle in cuts)

    def test_known(self):
        laying = Laying(THREE, [[0, 2, 4], [1, 3, 5]])
        self.same(contrary_total(laying, (0,)), (10, 3))
        self.same(contrary_total(laying, [MyInt(2), 0]), ratio(2 * Fraction(2, 3) * Fraction(3, 2) * Fraction(1, 3)))

    def test_ten_ties(self):
        laying = plain_laying(Web(2, [(0, 1, HALF)] + [(0, 0, HALF)] * 9))
        self.same((len(laying.faces), contrary_total(laying, (0,)) == contrary_total(laying, ())), (10, False))
        self.same(contrary_total(laying, (1,)), contrary_total(laying, ()))

    def test_wrong(self):
        for bundle in NO_NUMBERS + ((3,), [0, 3]):
            self.raises(BadBundle(), contrary_total, plain_laying(THREE), bundle)
            self.raises(TooMany(11, 10), contrary_total, plain_laying(Web(1, [(0, 0, HALF)] * 10)), bundle)


if __name__ == "__main__":
    unittest.main()
