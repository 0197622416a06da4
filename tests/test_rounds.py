"""leanwebs.rounds: points [106] to [108], [112] and [113]."""

import itertools
import unittest
from fractions import Fraction
from math import isqrt

from leanwebs.balance import signs_saying
from leanwebs.errors import BadCount, BadRatio, BadSpread, BadTable, TooMany
from leanwebs.fours import four_in
from leanwebs.levels import is_level, rates_row
from leanwebs.lines import breaking_line, breaks, line_numbers
from leanwebs.rounds import all_rates, closes, is_round, one_closes, round_for_all, unround_sizes
from leanwebs.spreads import Spread, spread_of_means
from leanwebs.stars import four_star, star_means
from leanwebs.sums import mean
from leanwebs.webs import Web
from tests.helper import (HALF, LEAN, MIXED, NO_RATIOS, NOT_BELOW, WIDE, Case, MyInt, Numbers, all_even, fraction,
                          pairs_of, ratio)

PAIRS = pairs_of(4)
FOUR = (0, 1, 2, 3)


def root(number, digits=60):
    """The root of a fraction, a little too small."""
    scale = 10 ** digits
    return Fraction(isqrt(number.numerator * scale * scale // number.denominator), scale)


def one_told(m, p, q, r):
    """Whether the root of m is at most the sum of the others; None if it is too close to tell."""
    gap = root(p) + root(q) + root(r) - root(m)
    return None if abs(gap) < Fraction(1, 10 ** 50) else gap > 0


def spread_with_means(means, whole):
    """The spread of four places with these means of its pairs, or None."""
    rows = [(pair, told) for pair, told in zip(PAIRS, means)] + [(FOUR, whole)]
    try:
        return spread_of_means(4, rows)
    except BadSpread:
        return None


def some_spreads(count):
    """Spreads of four places, round ones and others."""
    found = []
    for seed in range(count):
        numbers = Numbers(seed)
        low = 1 if seed % 3 else 0
        means = [(numbers.below(5 + low) - 1 + low, 16) if numbers.below(3) else (0, 1) for _ in PAIRS]
        one = spread_with_means(means, (numbers.below(7) - 1 + low, 32))
        if one is not None:
            found.append(one)
    return found


class TestCloses(Case):
    def test_squares(self):
        for roots in itertools.product(range(6), repeat=4):
            told = [(k * k, 49) for k in roots]
            a, b, c, d = roots
            self.same(closes(*told), 2 * max(roots) <= sum(roots))
            self.same(one_closes(*told), a <= b + c + d)

    def test_roots(self):
        for told in itertools.product((0, 1, 2, 3, 5, 8, 12, (1, 2)), repeat=4):
            numbers = [fraction(one if isinstance(one, tuple) else (one, 1)) for one in told]
            singles = [one_told(*(numbers[at:] + numbers[:at])) for at in range(4)]
            if None not in singles:
                self.same(closes(*told), all(singles))
            if singles[0] is not None:
                self.same(one_closes(*told), singles[0])

    def test_just_equal(self):
        for told in ((9, 1, 1, 1), (8, 2, 2, 0), (18, 2, 8, 0), (0, 0, 0, 0), (5, 5, 0, 0), (12, 3, 3, 0),
                     ((9, 4), (1, 4), 1, 0), (50, 2, 8, 8), (27, 3, 3, 3)):
            for order in itertools.permutations(told):
                self.same(closes(*order), True)
                self.same(one_closes(*order), True)
        for told in ((10, 1, 1, 1), (9, 1, 1, (999, 1000)), ((8 * 10 ** 9 + 1, 10 ** 9), 2, 2, 0), (1, 0, 0, 0)):
            for order in itertools.permutations(told):
                self.same(closes(*order), False)
                self.same(one_closes(*order), order[0] != told[0])

    def test_known(self):
        self.same(closes((9, 100), (1, 100), (1, 100), [2, 200]), True)
        self.same((one_closes(1, 9, 1, 1), one_closes(16, 9, 1, 1), one_closes(9, 16, 0, 0), closes(9, 16, 0, 0)),
                  (True, True, True, False))
        self.same(one_closes(MyInt(4), 1, 0, 1), True)

    def test_wrong(self):
        for call in (closes, one_closes):
            for number in NO_RATIOS + (-1, (-1, 3), [-2, 4]):
                for at in range(4):
                    told = [1, 1, 1, 1]
                    told[at] = number
                    self.raises(BadRatio(), call, *told)


class TestIsRound(Case):
    def test_up_to_three_places(self):
        self.same(is_round(Spread([HALF, HALF])), True)
        for numbers in itertools.product((-1, 0, 1), repeat=3):
            one = spread_of_means(3, [(pair, (k, 4)) for pair, k in zip(pairs_of(3), numbers)])
            self.same(is_round(one), min(numbers) >= 0)
            self.same(is_round(spread_of_means(2, [((0, 1), (numbers[0], 4))])), numbers[0] >= 0)

    def test_four_places(self):
        told = []
        for one in some_spreads(400):
            four = four_in(one, FOUR)
            numbers = [fraction(x) for x in (four.whole,) + four.products]
            wanted = min(fraction(x) for x in four.means) >= 0
            if wanted:
                singles = [one_told(*(numbers[at:] + numbers[:at])) for at in range(4)]
                if None in singles:
                    continue
                wanted = all(singles)
            self.same(is_round(one), wanted)
            told.append(wanted)
        self.assertGreater(told.count(True), 30)
        self.assertGreater(told.count(False), 30)

    def test_lines(self):
        for at, one in enumerate(some_spreads(120)):
            numbers = Numbers(at)
            if is_round(one):
                for _ in range(8):
                    x = [numbers.pull(-1) if numbers.below(2) else (numbers.below(30) - 15, 4) for _ in range(4)]
                    u = numbers.below(4)
                    v = (u + 1 + numbers.below(3)) % 4
                    self.same(breaks(line_numbers(one, x, u, v, (1 + numbers.below(9), 3))), False)
            else:
                self.same(breaks(line_numbers(one, *breaking_line(one))), True)

    def test_webs_without_pulls_below_zero(self):
        for web in NOT_BELOW + LEAN:
            if web.many <= 6:
                spread = Spread.of(web)
                for lot in ((), (0,), (1, 2), (0, 2), (0, 1, 3)):
                    if set(lot) < set(range(web.many)) and web.many - len(lot) <= 4:
                        self.same(is_round(spread.left_out(lot)), True)

    def test_sign_sayings(self):
        count = 0
        for web in MIXED:
            said = signs_saying(web)
            if said is not None and web.many <= 4:
                spread = Spread.of(web)
                self.same(is_round(Spread.of(web.turned([v for v in range(web.many) if said[v] == -1]))), True)
                below = [pair for pair in pairs_of(web.many) if spread.mean(pair)[0] < 0]
                self.same(is_round(spread), not below)
                count += bool(below)
                sizes = Spread.of(Web(web.many, [(u, v, (abs(t[0]), t[1])) for u, v, t in web.ties]))
                for lot in all_even(web.many):
                    self.same(sizes.mean(lot), (abs(spread.mean(lot)[0]), spread.mean(lot)[1]))
        self.assertGreater(count, 3)

    def test_four_stars(self):
        for web in LEAN:
            if web.many == 4 and four_star(web, FOUR) is not None:
                four = four_in(Spread.of(web), FOUR)
                self.same(four.products, (four.whole,) * 3)
                self.same((closes(four.whole, *four.products), is_round(Spread.of(web))), (True, True))
        for arms in itertools.product(((1, 2), (-1, 3), (0, 1), (2, 3)), repeat=3):
            one = spread_of_means(3, list(zip(pairs_of(3), star_means(*arms))))
            a, b, c = [fraction(arm) for arm in arms]
            self.same(is_round(one), min(a * b, a * c, b * c) >= 0)

    def test_known(self):
        one = spread_of_means(4, [((0, 1), (1, 4)), ((2, 3), (1, 4))])
        self.same(is_round(one), False)
        self.same(is_round(spread_of_means(4, [((0, 1), (1, 4)), ((2, 3), (1, 4)), (FOUR, (1, 16))])), True)
        self.same(is_round(spread_of_means(4, [(FOUR, (1, 16))])), False)
        self.same(is_round(spread_of_means(4, [(FOUR, (-1, 16))])), False)
        self.same(is_round(spread_of_means(4, [])), True)
        # P = Q = R = 1/256, and three roots of it are that of 9/256.
        for whole, wanted in (((9, 256), True), ((90001, 2560000), False), ((1, 256), True), ((0, 1), True)):
            self.same(is_round(spread_with_means([(1, 16)] * 6, whole)), wanted)

    def test_wrong(self):
        for many in (5, 6, 7):
            self.raises(TooMany(many, 4), is_round, spread_of_means(many, [((0, 1), (-1, 2))]))


class TestAllRates(Case):
    def test_values(self):
        told = []
        for at, one in enumerate(some_spreads(300)):
            four = four_in(one, FOUR)
            lots = all_even(4)
            below = [k for k, lot in enumerate(lots) if one.mean(lot)[0] < 0]
            if below:
                self.raises(BadTable(below[0]), all_rates, one)
                continue
            found = all_rates(one)
            wanted = one_told(fraction(four.whole), *[fraction(x) for x in four.products])
            if wanted is not None:
                self.same(found, wanted)
            told.append(found)
            self.assertTrue(found or not is_round(one))
            if found:
                numbers = Numbers(at)
                for _ in range(5):
                    rates = [(1 + numbers.below(9), 1 + numbers.below(9)) for _ in range(4)]
                    self.same(is_level(rates_row(one, rates)), True)
        self.assertGreater(told.count(True), 30)
        self.assertGreater(told.count(False), 10)

    def test_level_but_not_round(self):
        one = spread_of_means(4, [((0, 1), (1, 4)), ((2, 3), (1, 4))])
        self.same((all_rates(one), is_round(one)), (True, False))
        one = spread_of_means(4, [(FOUR, (1, 16))])
        self.same((all_rates(one), is_level(rates_row(one, (1, 1, 1, 1)))), (False, False))

    def test_equal_products_of_rates(self):
        one = spread_with_means([(1, 16)] * 6, (10, 256))
        self.same(all_rates(one), False)
        row = rates_row(one, (1, 1, 1, 1))
        self.same((row[1], is_level(row)), ((3, 8), False))
        # d_a*d_b*ab = d_c*d_d*cd in each of the three ways: e_2 is twice the sum of the roots of P, Q, R, here times 1.
        one = spread_with_means([(1, 4), (1, 8), (1, 4), (1, 4), (1, 32), (1, 16)], 0)
        rates, four = ((1, 2), 1, 1, 2), four_in(one, FOUR)
        self.same(four.products, ((1, 64), (1, 256), (1, 16)))
        found = [fraction(told) * fraction(rates[u] if u == 0 else (rates[u], 1)) * rates[v]
                 for (u, v), told in zip(PAIRS, four.means)]
        self.assertEqual(found[0], Fraction(1, 8))
        self.assertEqual([found[0] == found[5], found[1] == found[4], found[2] == found[3]], [True, True, True])
        self.same(rates_row(one, rates)[1], ratio(2 * (Fraction(1, 8) + Fraction(1, 16) + Fraction(1, 4))))

    def test_wrong(self):
        for many in (1, 2, 3, 5, 6, 7):
            self.raises(BadCount(), all_rates, spread_of_means(many, [] if many == 1 else [((0, 1), (-1, 2))]))
        for at, lot in enumerate(all_even(4)):
            if lot:
                rows = [(lot, (-1, 16)), (FOUR, (-1, 16))] if lot != FOUR else [(lot, (-1, 16))]
                self.raises(BadTable(at), all_rates, spread_of_means(4, rows))


class TestSizes(Case):
    def test_values(self):
        below = 0
        for web in MIXED + NOT_BELOW + LEAN + (WIDE,):
            merged = web.merged()
            plain = all(t[0] >= 0 for _, _, t in merged.ties)
            below += not plain
            self.same(round_for_all(web), plain)
            found = unround_sizes(web)
            if plain:
                self.same(found, None)
                continue
            self.same(found.shape, merged.shape)
            for (_, _, one), (_, _, other) in zip(merged.ties, found.ties):
                self.assertGreater(one[0] * other[0], 0)
                self.assertLess(max(abs(other[0]), other[1]), 10 ** 30)
            means = [fraction(mean(found, pair)) for pair in pairs_of(web.many)]
            self.assertLess(min(means), 0)
        self.assertGreater(below, 8)

    def test_many_ways_around(self):
        ties = [(0, 1, (-1, 10))] + [(0, k, HALF) for k in range(2, 6)] + [(k, 1, HALF) for k in range(2, 6)]
        web = Web(6, ties)
        found = unround_sizes(web)
        self.assertLess(min(fraction(mean(found, pair)) for pair in pairs_of(6)), 0)
        self.same(round_for_all(web), False)

    def test_merged(self):
        self.same(round_for_all(Web(2, [(0, 1, (-1, 3)), (1, 0, HALF), (0, 0, (-1, 2))])), True)
        self.same(unround_sizes(Web(2, [(0, 1, (-1, 3)), (1, 0, (1, 3))])), None)
        found = unround_sizes(Web(3, [(2, 1, HALF), (1, 0, (-1, 3)), (0, 1, (1, 4)), (2, 2, (-1, 2))]))
        self.same(found.shape, (3, ((0, 1), (1, 2))))
        self.assertTrue(found.pull(0)[0] < 0 < found.pull(1)[0])

    def test_round_at_all_sizes(self):
        for at, web in enumerate(MIXED):
            if round_for_all(web) and web.many <= 4:
                merged, numbers = web.merged(), Numbers(at)
                for _ in range(3):
                    sized = Web(web.many, [(u, v, numbers.pull(1)) for u, v, _ in merged.ties])
                    self.same(is_round(Spread.of(sized)), True)


if __name__ == "__main__":
    unittest.main()
