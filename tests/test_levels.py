"""leanwebs.levels: points [110] and [111]."""

import itertools
import unittest
from fractions import Fraction

from leanwebs.errors import BadRates, BadTable
from leanwebs.levels import common_round, is_level, level_gaps, rates_row
from leanwebs.rounds import is_round
from leanwebs.spreads import Spread, spread_of_means
from leanwebs.sums import count_yes
from leanwebs.webs import Web
from tests.helper import (HALF, LEAN, MIXED, NO_LISTS, NO_RATIOS, NOT_BELOW, Case, MyInt, MyList, Numbers, all_even,
                          all_real, fraction, pairs_of, product, ratio)

FOUR = (0, 1, 2, 3)
SPREADS = tuple(Spread.of(web) for web in MIXED + NOT_BELOW + LEAN[:14]) + (
    Spread.of(Web.star(HALF, HALF, HALF, HALF)).left_out((0,)), spread_of_means(7, [(tuple(range(1, 7)), HALF)]),
    spread_of_means(6, [((0, 1), (1, 4)), ((2, 3), (1, 4))]), spread_of_means(4, [(FOUR, (1, 3))]))
NO_ROWS = tuple(NO_LISTS) + ((), [], (1, 1, 1, 1, 1), (0,), (0, 1), (-1, 1), ((-1, 2), 1, 1)) + tuple(
    (1, number, 1) for number in NO_RATIOS) + tuple([number, 1] for number in NO_RATIOS)


def level_told(row):
    """Whether the row is level: all roots of its polynomial are real, none below 0, or it is constant."""
    signed = [(-1) ** k * told for k, told in enumerate(row)]
    while signed[-1] == 0:
        signed = signed[:-1]
    # Without a number below 0 in the row, no u below 0 is a root; with one, the roots are not all real and not below 0.
    return min(row) >= 0 and all_real(signed)


class TestRatesRow(Case):
    def test_values(self):
        for at, spread in enumerate(SPREADS):
            numbers = Numbers(at)
            rates = [[1 + numbers.below(6), 1 + numbers.below(4)] if numbers.below(2) else 1 + numbers.below(3)
                     for _ in range(spread.many)]
            told = [Fraction(one) if isinstance(one, int) else fraction(one) for one in rates]
            wanted = [Fraction(0)] * (spread.many // 2 + 1)
            for lot in all_even(spread.many):
                wanted[len(lot) // 2] += fraction(spread.mean(lot)) * product(told[place] for place in lot)
            self.same(rates_row(spread, rates), tuple(ratio(one) for one in wanted))
            self.same(rates_row(spread, tuple(rates)), rates_row(spread, rates))

    def test_known(self):
        one = Spread.of(Web.ring(HALF, HALF, HALF, HALF))
        self.same(rates_row(one, (1, 1, 1, 1)), ((1, 1), (56, 17), (8, 17)))
        self.same(rates_row(Spread([HALF, HALF]), [MyInt(3)]), ((1, 1),))
        self.same(rates_row(Spread.of(Web.line(HALF)), MyList([(2, 4), 3])), ((1, 1), (3, 4)))

    def test_wrong(self):
        spread = Spread.of(Web.line(HALF))
        for rates in NO_LISTS + ((), (1,), [1, 1, 1]):
            self.raises(BadRates(), rates_row, spread, rates)
        for number in NO_RATIOS + (0, -1, (0, 2), (-1, 2)):
            self.raises(BadRates(), rates_row, spread, (1, number))
            self.raises(BadRates(), rates_row, spread, [number, 1])


class TestIsLevel(Case):
    def test_small_rows(self):
        numbers = (-1, 0, (1, 3), 1, 2, 3, 4)
        for length in range(4):
            for rest in itertools.product(numbers, repeat=length):
                for first in ((1, 1), (1, 2), (3, 1)):
                    row = (first,) + rest
                    told = [Fraction(one) if isinstance(one, int) else fraction(one) for one in row]
                    self.same(is_level(row), level_told(told))

    def test_from_roots(self):
        for roots in itertools.combinations_with_replacement((Fraction(1, 2), Fraction(1), Fraction(7, 3), Fraction(9)), 3):
            row = [Fraction(1)]
            for root in roots:
                row = [a + root * b for a, b in zip(row + [0], [0] + row)]
            self.same(is_level([ratio(one) for one in row]), True)
            told = []
            for step in (Fraction(1, 10 ** 12), Fraction(-1, 10 ** 12)):
                changed = row[:3] + [row[3] + step]
                told.append(is_level([ratio(one) for one in changed]))
                self.same(told[-1], level_told(changed))
            # With two equal roots the number is just 0, and it falls below 0 on one side or on both.
            self.same(all(told), len(set(roots)) == 3)

    def test_known(self):
        for row in ((5,), (1, 0), (1, 2, 1), [1, 3, 3, 1], (1, 4, 4, 0), (1, 2, 0, 0), (1, 0, 0, 0)):
            self.same(is_level(row), True)
        for row in ([1, -1], (1, [199, 100], 1), (1, 3, 3, 2), (1, 3, 3, 0), (1, 0, 1), (1, 0, 0, 1)):
            self.same(is_level(row), False)

    def test_wrong(self):
        for row in NO_ROWS:
            self.raises(BadTable(-1), is_level, row)


class TestGaps(Case):
    def test_values(self):
        for length in range(1, 5):
            for seed in range(20):
                numbers = Numbers(seed + 100 * length)
                row = [1 + numbers.below(3)] + [[numbers.below(9) - 4, 1 + numbers.below(3)] for _ in range(length - 1)]
                told = [Fraction(row[0])] + [fraction(one) for one in row[1:]]
                m = length - 1
                wanted = [told[j] ** 2 - Fraction((j + 1) * (m - j + 1), j * (m - j)) * told[j - 1] * told[j + 1]
                          for j in range(1, m)]
                self.same(level_gaps(row), tuple(ratio(one) for one in wanted))
                if is_level(row):
                    self.assertGreaterEqual(min(wanted, default=0), 0)

    def test_known(self):
        self.same(level_gaps(((1, 1), (56, 17), (8, 17))), ((2592, 289),))
        self.same((level_gaps([3]), level_gaps((1, 2)), level_gaps((1, 2, 1)), level_gaps((1, 2, 1, 0))),
                  ((), (), ((0, 1),), ((1, 1), (1, 1))))
        self.same(level_gaps((1, 3, 3, 1)), ((0, 1), (0, 1)))

    def test_wrong(self):
        for row in NO_ROWS:
            self.raises(BadTable(-1), level_gaps, row)


class TestSpreads(Case):
    def test_common_round(self):
        told = []
        for spread in SPREADS:
            found = common_round(spread)
            self.same(found, is_level(rates_row(spread, (1,) * spread.many)))
            told.append(found)
        self.same((told.count(True) > 10, told.count(False) > 5), (True, True))

    def test_round_spreads_are_level_at_all_rates(self):
        count = 0
        for at, spread in enumerate(SPREADS):
            numbers = Numbers(at)
            if spread.many <= 4 and is_round(spread):
                for _ in range(4):
                    rates = [(1 + numbers.below(20), 1 + numbers.below(6)) for _ in range(spread.many)]
                    self.same(is_level(rates_row(spread, rates)), True)
                    count += 1
        for web in NOT_BELOW + LEAN:
            rates = [(1 + k, 3) for k in range(web.many)]
            self.same((is_level(rates_row(Spread.of(web), rates)), common_round(Spread.of(web))), (True, True))
        self.assertGreater(count, 40)

    def test_zeros_of_the_number_of_yes(self):
        # The sum over j of the chance of j yes times z^j has all zeros of size 1 exactly if, with z = (1 + w)/(1 - w),
        # the polynomial in w has only zeros with the real part 0.
        for web in MIXED + LEAN[:14]:
            chances = [fraction(one) for one in count_yes(web)]
            turned = [Fraction(0)] * (web.many + 1)
            for j, told in enumerate(chances):
                row = [told]
                for at in range(web.many):
                    sign = 1 if at < j else -1
                    row = [a + sign * b for a, b in zip(row + [0], [0] + row)]
                turned = [a + b for a, b in zip(turned, row)]
            self.assertEqual([one for one in turned[1::2] if one], [])
            even = [ratio(one) for one in turned[::2]]
            self.assertEqual(tuple(even), rates_row(Spread.of(web), (1,) * web.many))
            self.same(common_round(Spread.of(web)), is_level(even))

    def test_three_places(self):
        for numbers in itertools.product((-1, 0, 1), repeat=3):
            one = spread_of_means(3, [(pair, (k, 4)) for pair, k in zip(pairs_of(3), numbers)])
            self.same(common_round(one), sum(numbers) >= 0)


if __name__ == "__main__":
    unittest.main()
