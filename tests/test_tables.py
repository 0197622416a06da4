"""leanwebs.tables: points [14], [40], [49], [66], [76], [79], [84], [108] and [141] to [144]."""

import itertools
import unittest
from fractions import Fraction

from leanwebs.cutstold import table_of
from leanwebs.errors import BadRatio, BadSpread, BadTable
from leanwebs.fours import four_in, four_of
from leanwebs.hinges import parts_three
from leanwebs.rounds import closes, is_round
from leanwebs.rows import is_smooth
from leanwebs.spreads import Spread, is_webs, spread_of_means
from leanwebs.stars import sums_of_three
from leanwebs.sums import mean
from leanwebs.tables import between, bounds, broken_three, comes_plainly, comes_three, spread_with, triangle_sums
from leanwebs.ways import cuts
from leanwebs.webs import Web
from tests.helper import (HALF, LEAN, MIXED, NO_LISTS, NO_RATIOS, NOT_BELOW, Case, MyInt, MyList, Numbers, all_sayings,
                          fraction, fours_of, pairs_of, product, ratio)

PAIRS = pairs_of(4)
THREES = list(itertools.combinations(range(4), 3))
NUMBERS = ((-3, 4), (-1, 2), (-1, 4), (0, 1), (1, 4), (1, 2), (3, 4))
NO_ENTRIES = NO_RATIOS + (1, -1, (3, 2), (-5, 4), [2, 2], 7)


def sums_told(m12, m13, m23):
    a, b, c = [Fraction(one) if isinstance(one, int) else fraction(one) for one in (m12, m13, m23)]
    return (1 + a + b + c, 1 + a - b - c, 1 - a + b - c, 1 - a - b + c)


def three_of(table, three):
    told = dict(zip(PAIRS, table))
    u, v, w = three
    return (told[(u, v)], told[(u, w)], told[(v, w)])


def edge_told(table, saying):
    """E(s) of [142]."""
    return 1 + sum(fraction(told) * saying[u] * saying[v] for (u, v), told in zip(PAIRS, table))


def some_tables(count):
    """Tables of four places: of webs, of spreads, and others."""
    found = [table_of(web) for web in MIXED + LEAN if web.many == 4]
    for seed in range(count):
        numbers = Numbers(seed)
        found.append([[numbers.below(11) - (5 if seed % 2 else 2), (6, 12, 20)[seed % 3]] for _ in PAIRS])
    return [table for table in found if all(abs(fraction(told)) < 1 for told in table)]


class TestThree(Case):
    def test_sums(self):
        for told in itertools.product(NUMBERS + (1, -2, [5, 3]), repeat=3):
            found, wanted = triangle_sums(*told), sums_told(*told)
            self.same(found, tuple(ratio(one) for one in wanted))
            self.assertEqual(found, tuple(sums_of_three(*told)))
            self.same(comes_three(*told), min(wanted) > 0)
            a, b, c = [Fraction(one) if isinstance(one, int) else fraction(one) for one in told]
            self.same(comes_plainly(*told), min(wanted) > 0 and a >= b * c and b >= a * c and c >= a * b)

    def test_spreads(self):
        for told in itertools.product(NUMBERS, repeat=3):
            rows = [(pair, one) for pair, one in zip(pairs_of(3), told)]
            if comes_three(*told):
                self.same([spread_of_means(3, rows).mean(pair) for pair in pairs_of(3)], list(told))
            else:
                with self.assertRaises(BadSpread):
                    spread_of_means(3, rows)

    def test_plainly(self):
        plain = 0
        for web in NOT_BELOW + LEAN:
            for u, v, w in itertools.combinations(range(web.many), 3):
                told = (mean(web, (u, v)), mean(web, (u, w)), mean(web, (v, w)))
                self.same((comes_three(*told), comes_plainly(*told)), (True, True))
                plain += 1
        self.assertGreater(plain, 50)
        # Three places with a pull below 0 between two of them do not come plainly.
        for pulls in ((HALF, HALF, (-1, 9)), (HALF, (-1, 2), (1, 3)), ((-1, 2), (-1, 2), HALF)):
            web = Web.ring(*pulls)
            told = (mean(web, (0, 1)), mean(web, (0, 2)), mean(web, (1, 2)))
            self.same((comes_three(*told), comes_plainly(*told)), (True, False))

    def test_just_zero(self):
        self.same((triangle_sums((-1, 3), (-1, 3), (-1, 3)), comes_three((-1, 3), (-1, 3), (-1, 3))),
                  (((0, 1), (4, 3), (4, 3), (4, 3)), False))
        self.same((comes_three((1, 4), (3, 4), HALF), comes_three(1, 1, 1)), (False, False))
        self.same((comes_plainly((3, 8), (3, 4), HALF), comes_plainly((3, 9), (3, 4), HALF)), (True, False))
        self.same((comes_plainly(0, 0, 0), comes_plainly(MyInt(0), [0, 2], HALF)), (True, True))

    def test_wrong(self):
        for call in (triangle_sums, comes_three, comes_plainly):
            for number in NO_RATIOS:
                for told in ((number, 5, 5), (5, number, 5), (5, 5, number)):
                    self.raises(BadRatio(), call, *told)


class TestBroken(Case):
    def test_values(self):
        broken = 0
        for table in some_tables(300):
            wanted = None
            for three in THREES:
                below = [k for k, told in enumerate(sums_told(*three_of(table, three))) if told <= 0]
                if below and wanted is None:
                    wanted = (three, below[0])
            self.same(broken_three(table), wanted)
            broken += wanted is not None
        self.assertGreater(broken, 50)

    def test_known(self):
        self.same(broken_three([(-1, 2)] * 6), ((0, 1, 2), 0))
        self.same(broken_three(((-1, 3),) * 6), ((0, 1, 2), 0))
        self.same(broken_three([HALF] * 6), None)
        self.same(broken_three([0, 0, 0, (3, 4), (3, 4), (1, 8)]), ((1, 2, 3), 3))
        self.same(broken_three([0, 0, 0, (3, 4), (1, 8), (3, 4)]), ((1, 2, 3), 2))


class TestBetween(Case):
    def test_values(self):
        come = 0
        for table in some_tables(300):
            if broken_three(table) is not None:
                self.raises(BadTable(-1), between, table)
                self.raises(BadTable(-1), spread_with, table, None)
                continue
            come += 1
            low, high = between(table)
            rows = [(saying, edge_told(table, saying)) for saying in all_sayings(4)]
            self.same((low, high), (ratio(max(-told for saying, told in rows if product(saying) == 1)),
                                    ratio(min(told for saying, told in rows if product(saying) == -1))))
            low, high = fraction(low), fraction(high)
            self.assertLess(low, high)
            for part in (Fraction(1, 10 ** 9), Fraction(1, 2), Fraction(999, 1000)):
                whole = low + (high - low) * part
                found = spread_with(list(table), ratio(whole))
                self.assertIs(type(found), Spread)
                self.assertEqual([found.mean(pair) for pair in PAIRS], [ratio(fraction(one)) for one in table])
                self.same(found.mean((0, 1, 2, 3)), ratio(whole))
            for edge in (low, high):
                told = [value + edge * product(saying) for saying, value in rows]
                self.assertEqual(min(told), 0)
                self.raises(BadRatio(), spread_with, table, ratio(edge))
            for beyond in (low - Fraction(1, 10 ** 9), high + Fraction(1, 10 ** 9), low - 3, high + 3):
                self.raises(BadRatio(), spread_with, table, ratio(beyond))
        self.assertGreater(come, 60)

    def test_webs_lie_between(self):
        for web in MIXED + LEAN:
            if web.many == 4:
                table, whole = table_of(web), mean(web, (0, 1, 2, 3))
                low, high = between(table)
                self.assertTrue(fraction(low) < fraction(whole) < fraction(high))
                self.assertTrue(spread_with(table, whole) == Spread.of(web))

    def test_webs_and_round_spreads(self):
        webs, rounds = [], []
        for table in some_tables(300):
            if broken_three(table) is None:
                low, high = [fraction(one) for one in between(table)]
                for k in range(1, 8):
                    found = spread_with(table, ratio(low + (high - low) * Fraction(k, 8)))
                    told = four_in(found, (0, 1, 2, 3))
                    wanted = min(one[0] for one in told.means) >= 0 and closes(told.whole, *told.products)
                    self.same(is_round(found), wanted)
                    rounds.append(wanted)
                    webs.append(is_webs(found))
        self.assertTrue({True, False} == set(webs) == set(rounds))

    def test_left_out(self):
        # What is left out changes no mean: the table and the mean of the rest are those in the whole web.
        for web in LEAN:
            if web.many == 5:
                spread = Spread.of(web)
                for gone in range(5):
                    kept = [place for place in range(5) if place != gone]
                    told = four_of(web, kept)
                    self.assertTrue(spread_with(told.means[:6], told.whole) == spread.left_out((gone,)))

    def test_known(self):
        self.same(between([HALF] * 6), ((0, 1), (1, 1)))
        self.same(between([0] * 6), ((-1, 1), (1, 1)))
        found = spread_with(MyList([MyInt(0)] * 6), [2, 4])
        self.same((found.mean((0, 1, 2, 3)), found.mean((0, 1)), found.many), (HALF, (0, 1), 4))

    def test_wrong(self):
        for whole in NO_RATIOS + (1, -1, (3, 2)):
            self.raises(BadRatio(), spread_with, [0] * 6, whole)


class TestBounds(Case):
    def test_values(self):
        for table in some_tables(200):
            told = dict(zip(PAIRS, [fraction(one) for one in table]))
            p, q, r = told[(0, 1)] * told[(2, 3)], told[(0, 2)] * told[(1, 3)], told[(0, 3)] * told[(1, 2)]
            ways = [product(told[pair] for pair in PAIRS if place in pair) for place in range(4)]
            self.same(bounds(table), (ratio(max(p + q - r, p + r - q, q + r - p)), ratio(p + q + r - 2 * max(ways))))

    def test_webs(self):
        met = {"low": 0, "high": 0, "cut": 0}
        for web in LEAN:
            for four in fours_of(web.many):
                told = four_of(web, four)
                low, high = [fraction(one) for one in bounds(told.means[:6])]
                whole = fraction(told.whole)
                self.assertTrue(low <= whole <= high)
                self.same(whole == low, (0, 1) in told.links)
                parted = any(parts_three(web, four[k], four[:k] + four[k + 1:]) for k in range(4))
                self.same(whole == high, parted)
                greatest = max(fraction(one) for one in told.products)
                self.assertGreaterEqual(whole, greatest)
                a, b, c, d = four
                cut = any(all(cuts(web, x, u, w) for u in pair for w in four if w not in pair)
                          for x in range(web.many) for pair in ((a, b), (a, c), (a, d)))
                self.same(whole == greatest, cut)
                met["low"] += whole == low
                met["high"] += whole == high
                met["cut"] += cut
        self.assertTrue(min(met.values()) > 5, met)

    def test_known(self):
        self.same(bounds([HALF] * 6), ((1, 4), HALF))
        self.same(bounds([(-1, 2)] * 6), ((1, 4), (1, 1)))
        self.same(bounds([0] * 6), ((0, 1), (0, 1)))
        self.same(bounds(table_of(Web.star(HALF, HALF, HALF))), ((1, 8), (1, 8)))


class TestToldBack(Case):
    def test_smooth_rows(self):
        # Two lines; in the longer one, two ties do what one tie does in the other.
        short = Web.line(HALF, (1, 3), (1, 4))
        long = Web(6, [(0, 4, (2, 3)), (4, 1, (3, 4)), (1, 2, (1, 3)), (2, 5, (1, 2)), (5, 3, (1, 2))])
        row = (0, 1, 2, 3)
        self.same((is_smooth(short, row), is_smooth(long, row)), (True, True))
        for pair in PAIRS:
            self.assertEqual(mean(short, pair), mean(long, pair))
        self.same(mean(short, row), mean(long, row))

    def test_plain_shapes(self):
        webs = [web for web in LEAN if web.many <= 4 and len(web.merged().ties) == len(web.ties)]
        for web in webs:
            other = Web(web.many, [(u, v, (t[0] * 2, t[1] * 2 + 1)) for u, v, t in web.ties])
            self.same(table_of(other) == table_of(web), not web.ties)


class TestWrongTables(Case):
    calls = ((broken_three, 0), (between, 0), (bounds, 0), (spread_with, 1))

    def test_tables(self):
        for call, more in self.calls:
            for table in NO_LISTS + ((), [HALF] * 5, (HALF,) * 7):
                self.raises(BadTable(-1), call, table, *[None] * more)
            for k in range(6):
                for told in NO_ENTRIES:
                    table = [(-1, 2)] * 6
                    table[k] = told
                    self.raises(BadTable(k), call, table, *[None] * more)
                    self.raises(BadTable(k), call, tuple(table[:k + 1]) + (7,) * (5 - k), *[None] * more)


if __name__ == "__main__":
    unittest.main()
