"""leanwebs.ratios: point [2], and what [1] says of integers."""

import unittest
from fractions import Fraction

from leanwebs.errors import BadRatio
from leanwebs.ratios import at_most, minus, odds_of, over, plus, ratio_of, sign_of, times
from tests.helper import NO_RATIOS, Case, MyInt, MyList, MyTuple, ratio

SAMPLES = [(0, 1), (1, 1), (-1, 1), (1, 2), (-1, 2), (2, 3), (-5, 7), (12, 5), (-7, 1), (10 ** 30 + 1, 10 ** 29)]


class TestRatios(Case):
    def test_ratio_of(self):
        for number, wanted in (
                (0, (0, 1)), (5, (5, 1)), (-5, (-5, 1)), ((2, 4), (1, 2)), ([2, 4], (1, 2)), ((-2, 4), (-1, 2)),
                ((0, 7), (0, 1)), ([0, 1], (0, 1)), ((6, 3), (2, 1)), ((3, 1), (3, 1)), ((7, 5), (7, 5)),
                (10 ** 40, (10 ** 40, 1)), ((10 ** 40, 10 ** 41), (1, 10))):
            self.same(ratio_of(number), wanted)

    def test_ratio_of_subclasses(self):
        self.same(ratio_of(MyInt(3)), (3, 1))
        self.same(ratio_of(MyTuple([MyInt(2), MyInt(4)])), (1, 2))
        self.same(ratio_of(MyTuple([1, 2])), (1, 2))
        self.same(ratio_of(MyList([MyInt(1), MyInt(1)])), (1, 1))

    def test_no_ratio(self):
        for value in NO_RATIOS:
            for call in (ratio_of, sign_of, odds_of):
                with self.subTest((call.__name__, value)):
                    self.raises(BadRatio(), call, value)
            for call in (plus, minus, times, over, at_most):
                with self.subTest((call.__name__, value)):
                    self.raises(BadRatio(), call, value, 1)
                    self.raises(BadRatio(), call, 1, value)

    def test_sums_and_products(self):
        for one in SAMPLES:
            for other in SAMPLES:
                x, y = Fraction(*one), Fraction(*other)
                self.same(plus(one, other), ratio(x + y))
                self.same(minus(one, other), ratio(x - y))
                self.same(times(one, other), ratio(x * y))
                self.same(at_most(one, other), x <= y)
                if y:
                    self.same(over(one, other), ratio(x / y))

    def test_other_forms(self):
        self.same(plus([2, 4], 1), (3, 2))
        self.same(minus(1, [2, 4]), (1, 2))
        self.same(times((4, 6), [3, 2]), (1, 1))
        self.same(over(3, (-6, 4)), (-2, 1))
        self.same(at_most((2, 4), [1, 2]), True)
        self.same(at_most((2, 4), 0), False)
        self.same(sign_of([0, 9]), 0)

    def test_over_zero(self):
        for zero in (0, (0, 1), [0, 5]):
            self.raises(BadRatio(), over, 1, zero)
            self.raises(BadRatio(), over, 0, zero)

    def test_sign_of(self):
        self.same([sign_of(one) for one in (-3, (-1, 9), 0, (0, 4), (1, 9), 3)], [-1, -1, 0, 0, 1, 1])

    def test_odds_of(self):
        self.same(odds_of(0), (1, 1))
        self.same(odds_of((1, 2)), (3, 1))
        self.same(odds_of([-2, 4]), (1, 3))
        self.same(odds_of((1, 5)), (3, 2))
        for number in (1, -1, (2, 2), (-5, 5), (3, 2), (-3, 2), 7):
            self.raises(BadRatio(), odds_of, number)

    def test_arguments_stay(self):
        one, other = [2, 4], [3, 9]
        for call in (plus, minus, times, over, at_most):
            call(one, other)
        odds_of(one)
        ratio_of(one)
        self.same([one, other], [[2, 4], [3, 9]])


if __name__ == "__main__":
    unittest.main()
