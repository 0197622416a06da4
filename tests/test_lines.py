"""leanwebs.lines: points [106] and [109]."""

import unittest
from fractions import Fraction

from leanwebs.errors import BadPlace, BadRates, BadRatio, BadSpread, BadTable, TooMany
from leanwebs.lines import along_line, breaking_line, breaks, f_at, line_numbers
from leanwebs.rounds import is_round
from leanwebs.spreads import Spread, spread_of_means
from leanwebs.webs import Web
from tests.helper import (HALF, LEAN, MIXED, NO_LISTS, NO_RATIOS, NOT_BELOW, Case, MyInt, MyList, Numbers, all_even,
                          all_real, fraction, no_places, pairs_of, product, ratio)

FOUR = (0, 1, 2, 3)
TINY = Fraction(1, 10 ** 12)
SPREADS = tuple(Spread.of(web) for web in MIXED + NOT_BELOW + LEAN[:14]) + (
    Spread.of(Web.star(HALF, HALF, HALF, HALF)).left_out((0,)), spread_of_means(7, [(tuple(range(1, 7)), HALF)]))


def f_told(spread, xs):
    return sum((-1) ** (len(lot) // 2) * fraction(spread.mean(lot)) * product(xs[place] for place in lot)
               for lot in all_even(spread.many))


def some_numbers(numbers, many):
    return [[numbers.below(13) - 6, 1 + numbers.below(4)] if numbers.below(3) else numbers.below(9) - 4
            for _ in range(many)]


def as_fractions(told):
    return [Fraction(one) if isinstance(one, int) else fraction(one) for one in told]


def no_numbers(many):
    """None of these is a row of so many ratios."""
    row = [1] * many
    return [one for one in NO_LISTS if one is not None] + [None, row[1:], row + [1]] + [
        row[:at] + [number] + row[at + 1:] for at in range(many) for number in NO_RATIOS]


class TestFAt(Case):
    def test_values(self):
        for at, spread in enumerate(SPREADS):
            for seed in (at, at + 100):
                x = some_numbers(Numbers(seed), spread.many)
                self.same(f_at(spread, x), ratio(f_told(spread, as_fractions(x))))
                self.same(f_at(spread, tuple(x)), f_at(spread, x))

    def test_known(self):
        one = spread_of_means(4, [((0, 1), (1, 4)), ((2, 3), (1, 4))])
        self.same(f_at(one, (0, 0, 3, 3)), (-5, 4))
        self.same((f_at(one, (0, 0, 0, 0)), f_at(Spread([HALF, HALF]), [7])), ((1, 1), (1, 1)))
        line = Spread.of(Web.line(HALF, (1, 3)))
        self.same(f_at(line, MyList([MyInt(1), (4, 2), 3])), ratio(1 - Fraction(2, 2) - Fraction(6, 3) - Fraction(3, 6)))

    def test_wrong(self):
        for spread in (Spread([HALF, HALF]), Spread.of(Web.line(HALF, HALF))):
            for x in no_numbers(spread.many):
                self.raises(BadRates(), f_at, spread, x)


class TestLineNumbers(Case):
    def test_values(self):
        for at, spread in enumerate(SPREADS):
            if spread.many < 2:
                continue
            for seed in range(at, at + 90, 30):
                numbers = Numbers(seed)
                x, k = some_numbers(numbers, spread.many), (1 + numbers.below(6), 1 + numbers.below(4))
                u = numbers.below(spread.many)
                v = (u + 1 + numbers.below(spread.many - 1)) % spread.many
                found = line_numbers(spread, x, u, v, k)
                self.plain(found)
                a, b, c = [fraction(one) for one in found]
                self.same(found, (ratio(a), ratio(b), ratio(c)))
                for h in (Fraction(0), Fraction(1), Fraction(-2), Fraction(5, 3)):
                    moved = as_fractions(x)
                    moved[u] += h
                    moved[v] += fraction(k) * h
                    self.assertEqual(f_told(spread, moved), a + b * h + c * h * h)

    def test_known(self):
        one = spread_of_means(4, [((0, 1), (1, 4)), ((2, 3), (1, 4))])
        self.same(line_numbers(one, (0, 0, 3, 3), 0, 1, 1), ((-5, 4), (0, 1), (-1, 4)))
        two = Spread.of(Web.line(HALF))
        self.same(line_numbers(two, [1, [2, 4]], 1, 0, [6, 4]), ((3, 4), (-7, 8), (-3, 4)))

    def test_wrong(self):
        spread = Spread.of(Web.line(HALF, HALF))
        for x in no_numbers(3):
            self.raises(BadRates(), line_numbers, spread, x, 0, 0, 0)
        for place in no_places(3):
            self.raises(BadPlace(), line_numbers, spread, [1, 2, 3], place, 0, 0)
            self.raises(BadPlace(), line_numbers, spread, [1, 2, 3], 0, place, 0)
        for place in range(3):
            self.raises(BadPlace(), line_numbers, spread, [1, 2, 3], place, place, 0)
        for k in NO_RATIOS + (0, -1, (-1, 2), (0, 3)):
            self.raises(BadRatio(), line_numbers, spread, (1, 2, 3), 0, 2, k)
        self.raises(BadPlace(), line_numbers, Spread([HALF, HALF]), [1], 0, 0, 1)


class TestBreaks(Case):
    def test_values(self):
        for a in range(-3, 4):
            for b in range(-4, 5):
                for c in range(-3, 4):
                    self.same(breaks((a, [b, 2], (c, 3))), Fraction(b * b, 4) < 4 * a * Fraction(c, 3))

    def test_known(self):
        self.same(breaks(((-5, 4), (0, 1), (-1, 4))), True)
        self.same((breaks((1, 2, 1)), breaks([1, (199, 100), 1]), breaks((0, 0, 0)), breaks((1, 0, -1))),
                  (False, True, False, False))

    def test_wrong(self):
        for numbers in no_numbers(3):
            self.raises(BadTable(-1), breaks, numbers)


class TestBreakingLine(Case):
    def check(self, spread):
        found = breaking_line(spread)
        if is_round(spread):
            self.same(found, None)
            return
        self.plain(found)
        x, u, v, k = found
        self.assertEqual((type(found), type(x), len(x)), (tuple, tuple, spread.many))
        for one in x + (k,):
            self.same(one, ratio(fraction(one)))
        self.assertTrue(0 <= u < v < spread.many)
        self.assertGreater(fraction(k), 0)
        a, b, c = [fraction(one) for one in line_numbers(spread, x, u, v, k)]
        self.assertLess(b * b, 4 * a * c)
        self.same(breaks((ratio(a), ratio(b), ratio(c))), True)

    def four(self, means, whole):
        rows = [(pair, ratio(told)) for pair, told in zip(pairs_of(4), means)] + [(FOUR, ratio(whole))]
        try:
            self.check(spread_of_means(4, rows))
        except BadSpread:
            return 0
        return 1

    def test_small(self):
        self.same(breaking_line(Spread([HALF, HALF])), None)
        for seed in range(60):
            numbers = Numbers(seed)
            for many in (2, 3):
                rows = [(pair, (numbers.below(5) - 2, 7)) for pair in pairs_of(many)]
                self.check(spread_of_means(many, rows))

    def test_four_places(self):
        made = 0
        for seed in range(700):
            numbers = Numbers(seed)
            low, parts = seed % 2, (2, 3, 9)[seed % 3]
            means = [Fraction(numbers.below(5) - 1 + low, 16) if numbers.below(parts) else 0 for _ in range(6)]
            made += self.four(means, Fraction(numbers.below(9) - 3, 32) if numbers.below(4) else 0)
        self.assertGreater(made, 300)

    def test_roots_that_are_nearly_equal(self):
        q, made = Fraction(1, 16), 0
        for gap in (0, TINY, -TINY, TINY ** 3, -TINY ** 3):
            for means, whole in (([q] * 6, 9 * q * q + gap), ([q, q, 0, 0, q, q], 4 * q * q + gap),
                                 ([2 * q, q, q, q, q, 2 * q], -gap), ([2 * q + gap, q, q, q, q, 2 * q], 0),
                                 ([q, 0, 0, 0, 0, q], q * q + gap), ([2 * q, q, 0, 0, q, q], 3 * q * q + gap),
                                 ([q, 3 * q, q, q, q, q], q * q + gap), ([0] * 6, gap), ([abs(gap)] * 6, -abs(gap) ** 4),
                                 ([abs(gap), 0, 0, 0, 0, 0], -abs(gap) ** 2), ([gap, 0, 0, 0, 0, abs(gap)], 0),
                                 ([0, q, 0, 0, gap, 0], 0), ([0, q, q, 0, 0, 0], gap), ([0, 0, 0, q, 0, 0], gap)):
                made += self.four(means, whole)
        self.assertGreater(made, 60)

    def test_products_with_equal_roots(self):
        # P = M and k above 0, P = 0 with other means above 0, M = 0: one each in which a limit is met at once.
        q = Fraction(1, 32)
        for means, whole in (([q, 4 * q, 0, 0, 4 * q, q], q * q), ([0, 4 * q, 0, 0, 4 * q, q], 0),
                             ([q, 2 * q, 2 * q, 2 * q, 6 * q, q], q * q), ([q, q, q, 0, 0, 0], q), ([0, 0, 0, q, q, q], q)):
            self.assertEqual(self.four(means, whole), 1)

    def test_digits(self):
        numbers = Numbers(5)
        for _ in range(60):
            means = [Fraction(numbers.below(150000), 999999 - k) for k in range(6)]
            whole = Fraction(numbers.below(150000), 999989)
            try:
                spread = spread_of_means(4, [(pair, ratio(told)) for pair, told in zip(pairs_of(4), means)]
                                         + [(FOUR, ratio(whole))])
            except BadSpread:
                continue
            found = breaking_line(spread)
            if found is not None:
                self.assertLess(max(abs(part) for one in found[0] for part in one), 10 ** 300)
                self.check(spread)

    def test_wrong(self):
        for many in (5, 6, 7):
            self.raises(TooMany(many, 4), breaking_line, spread_of_means(many, [((0, 1), (-1, 2))]))


class TestAlongLine(Case):
    def test_values(self):
        for at, spread in enumerate(SPREADS):
            numbers = Numbers(at)
            x, d = some_numbers(numbers, spread.many), [numbers.below(4) for _ in range(spread.many)]
            found = along_line(spread, x, d)
            self.plain(found)
            self.assertEqual((type(found), len(found)), (tuple, spread.many + 1))
            for h in (Fraction(0), Fraction(1), Fraction(-3), Fraction(7, 2)):
                moved = [one + h * step for one, step in zip(as_fractions(x), d)]
                self.assertEqual(sum(fraction(told) * h ** k for k, told in enumerate(found)), f_told(spread, moved))
            self.same(found, tuple(ratio(fraction(told)) for told in found))

    def test_known(self):
        one = Spread.of(Web.line(HALF, (1, 3)))
        self.same(along_line(one, (1, 0, 0), (1, 1, 1)), ((1, 1), (-2, 3), (-1, 1), (0, 1)))
        self.same(along_line(one, [0, 0, 0], [0, [2, 4], (3, 1)]), ((1, 1), (0, 1), (-1, 2), (0, 1)))
        self.same(along_line(Spread([HALF, HALF]), [3], [5]), ((1, 1), (0, 1)))

    def test_only_real_roots(self):
        for at, web in enumerate(NOT_BELOW + LEAN[:14]):
            numbers = Numbers(at)
            x = some_numbers(numbers, web.many)
            row = [fraction(one) for one in along_line(Spread.of(web), x, [numbers.below(3) for _ in x])]
            self.assertTrue(all_real(row), (web.ties, x))

    def test_wrong(self):
        spread = Spread.of(Web.line(HALF))
        for x in no_numbers(2):
            self.raises(BadRates(), along_line, spread, x, [1, 1])
            self.raises(BadRates(), along_line, spread, [1, 1], x)
        for d in ((-1, 0), [0, (-1, 2)], (-1, -1)):
            self.raises(BadRates(), along_line, spread, (1, 1), d)
        along_line(spread, (-1, -1), (0, 0))


if __name__ == "__main__":
    unittest.main()
