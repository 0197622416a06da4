"""leanwebs.rows: points [80] to [83]."""

import itertools
import unittest
from fractions import Fraction

from leanwebs.errors import BadLot, BadRow, BadSaying, BadTable, BelowZero, OddLot, TooMany
from leanwebs.fours import four_of
from leanwebs.lots import even_lots
from leanwebs.rows import (crossing_four, is_smooth, off, off_by_blocks, pair_means, pairings_of, row_by_pairing,
                           row_chance, signed_pairings)
from leanwebs.webs import Web
from tests.helper import (HALF, LEAN, MIXED, NO_INTEGERS, NO_LISTS, NO_NUMBERS, NO_RATIOS, NOT_BELOW, WIDE, Case, MyInt,
                          MyList, Numbers, all_sayings, joined_lots, means_told, no_places, product, ratio, ways_told,
                          weight_of)

RING = Web.ring(HALF, HALF, HALF, HALF)
LARGE = (Web(7, [(0, 0, (-1, 2))] * 10), 7, 6), (Web(6, [(0, 0, (-1, 2))] * 10), 10, 9)
NO_ROWS = NO_LISTS + tuple((1, place) for place in no_places(4)) + ((0, 0), [2, 1, 2], (0, 1, 2, 3, 3))
NO_LOTS = NO_NUMBERS + ((4,), (0, 4))


def rows_of(web, seed):
    """Some rows of places of the web, short and long ones."""
    numbers, found = Numbers(seed), [(), tuple(range(web.many))]
    for _ in range(3):
        left, row = list(range(web.many)), []
        for _ in range(numbers.below(web.many + 1)):
            row.append(left.pop(numbers.below(len(left))))
        found.append(tuple(row))
    return found


def cross_told(web, a, b, c, d):
    return any(not set(one) & set(two) for _, one in ways_told(web, a, c) for _, two in ways_told(web, b, d))


def pairs_parted(numbers):
    if not numbers:
        return [()]
    return [((numbers[0], other),) + rest for other in numbers[1:]
            for rest in pairs_parted([k for k in numbers[1:] if k != other])]


def pairings_told(many, number):
    """The signed pairings with the crossings counted, number(i, j) being m(i, j)."""
    whole = Fraction(0)
    for pairs in pairs_parted(list(range(many))):
        crossings = len([1 for (i, j), (g, h) in itertools.permutations(pairs, 2) if i < g < j < h])
        whole += (-1) ** crossings * product(number(i, j) for i, j in pairs)
    return whole


def off_told(told, places):
    first = places[0]
    whole = tuple(sorted(places))
    sums = sum((-1) ** i * told[joined_lots((first,), (places[i - 1],))]
               * told[joined_lots(whole, (first,), (places[i - 1],))] for i in range(2, len(places) + 1))
    return sums - told[whole]


def smooth_told(web, row):
    return not any(cross_told(web, *four) for four in itertools.combinations(row, 4))


class TestCrossing(Case):
    def test_example(self):
        self.same((crossing_four(RING, (0, 1, 2, 3)), crossing_four(RING, (0, 2, 1, 3))), (None, (0, 2, 1, 3)))
        self.same((pairings_of(RING, (0, 2, 1, 3), (0, 1, 2, 3)), off(RING, (0, 2, 1, 3), (0, 1, 2, 3))),
                  ((64, 289), (-72, 289)))
        self.same((signed_pairings([[1, 2, 3], [4, 5], [6], []]), row_by_pairing(RING, (0, 2), (1, -1))), ((8, 1), (9, 68)))

    def test_crossing(self):
        for at, web in enumerate(MIXED + LEAN):
            for row in rows_of(web, at):
                wanted = next((four for four in itertools.combinations(row, 4) if cross_told(web, *four)), None)
                self.same(crossing_four(web, list(row)), wanted)
                self.same(is_smooth(web, row), wanted is None)

    def test_first_by_positions(self):
        web = Web(6, [(5, 3, HALF), (1, 4, HALF), (0, 4, HALF), (2, 5, HALF), (0, 2, (-1, 2))])
        row = (4, 5, 1, 3, 0, 2)
        found = [four for four in itertools.combinations(row, 4) if cross_told(web, *four)]
        self.assertGreater(len(found), 2)
        self.same(crossing_four(web, MyList([MyInt(place) for place in row])), found[0])

    def test_pulls(self):
        web = Web(4, [(0, 2, HALF), (1, 3, 0)])
        self.same((is_smooth(web, (0, 1, 2, 3)), is_smooth(web.with_pull(1, (-1, 9)), [0, 1, 2, 3])), (True, False))
        self.same((is_smooth(RING, ()), is_smooth(RING, [2, 0, 1])), (True, True))

    def test_wrong(self):
        for call in (crossing_four, is_smooth):
            for web, many, most in LARGE:
                self.raises(TooMany(many, most), call, web, None)
            for row in NO_ROWS:
                self.raises(BadRow(), call, RING, row)


class TestPairMeans(Case):
    def test_pair_means(self):
        for at, web in enumerate(MIXED + LEAN + (WIDE,)):
            told = means_told(web)
            for row in rows_of(web, at):
                wanted = tuple(tuple(ratio(told[tuple(sorted((u, v)))]) for v in row[k + 1:]) for k, u in enumerate(row))
                self.same(pair_means(web, list(row)), wanted)

    def test_edges(self):
        self.same(pair_means(RING, ()), ())
        self.same(pair_means(RING, [3]), ((),))
        self.same(pair_means(RING, (3, 0)), (((10, 17),), ()))

    def test_wrong(self):
        for row in NO_ROWS:
            self.raises(BadRow(), pair_means, RING, row)


class TestSignedPairings(Case):
    def test_values(self):
        for many in range(9):
            numbers = Numbers(many)
            table = [[[numbers.below(19) - 9, 1 + numbers.below(5)] for _ in range(many - k - 1)] for k in range(many)]
            wanted = pairings_told(many, lambda i, j: Fraction(*table[i][j - i - 1]))
            self.same(signed_pairings(table), ratio(wanted))
            self.same(signed_pairings(tuple(tuple(row) for row in table)), ratio(wanted))

    def test_edges(self):
        self.same(signed_pairings([]), (1, 1))
        self.same(signed_pairings(()), (1, 1))
        self.same(signed_pairings([()]), (0, 1))
        self.same(signed_pairings([[[4, -6][:1] + [6]], ()]), (2, 3))
        self.same(signed_pairings([(5, 7), [9], []]), (0, 1))
        self.same(signed_pairings([[1] * (9 - k) for k in range(10)]), (1, 1))
        self.same(signed_pairings([[1] * (8 - k) for k in range(9)]), (0, 1))
        # All pairings of six numbers but the one with just neighbours are left out.
        self.same(signed_pairings([[1, 0, 0, 0, 0], [0, 0, 0, 0], [1, 0, 0], [0, 0], [1], []]), (1, 1))
        self.same(signed_pairings([[0, 0, 1, 0, 0], [0, 0, 1, 0], [0, 0, 1], [0, 0], [0], []]), (-1, 1))

    def test_wrong(self):
        for table in NO_LISTS:
            self.raises(BadTable(-1), signed_pairings, table)
        for row in NO_LISTS + ((), (1,), (1, 2, 3), [None]):
            self.raises(BadTable(0), signed_pairings, [row, [1], []])
            self.raises(BadTable(1), signed_pairings, ((1, 2, 3), row, None, None))
        self.raises(BadTable(2), signed_pairings, ((1, 2), (3,), (4,)))
        self.raises(BadTable(0), signed_pairings, [[1]])
        for value in NO_RATIOS:
            self.raises(BadTable(0), signed_pairings, [[1, value], [None], None])
            self.raises(BadTable(1), signed_pairings, [[1, 1], [value], []])


class TestPairingsOf(Case):
    def test_values(self):
        for at, web in enumerate(MIXED + LEAN):
            told = means_told(web)
            for row in rows_of(web, at):
                for size in range(len(row) + 1):
                    for lot in itertools.combinations(row, size):
                        wanted = pairings_told(size, lambda i, j: told[tuple(sorted((lot[i], lot[j])))])
                        self.same(pairings_of(web, list(row), lot[::-1]), ratio(wanted))

    def test_smooth(self):
        """Point [81]."""
        smooth = 0
        for at, web in enumerate(NOT_BELOW + LEAN):
            told = means_told(web)
            for row in rows_of(web, at):
                found = smooth_told(web, row)
                smooth += found
                for sizes in ((0, 2, 4, 6), (4,)):
                    same = all(pairings_of(web, row, lot) == ratio(told[tuple(sorted(lot))])
                               for size in sizes for lot in itertools.combinations(row, size))
                    self.assertEqual(found, same)
                for lot in itertools.combinations(row, 4):
                    four = four_of(web, lot)
                    p, q, r = [Fraction(*one) for one in four.products]
                    links = [Fraction(*one) for one in four.links]
                    self.same(pairings_of(web, row, lot), ratio(p - q + r))
                    self.assertEqual(Fraction(*four.whole), p - q + r + 2 * links[1])
                    if found:
                        self.assertEqual(links, [p - q, 0, r - q])
        self.assertGreater(smooth, 20)

    def test_edges(self):
        self.same(pairings_of(RING, (), ()), (1, 1))
        self.same(pairings_of(RING, [2, 0], [2]), (0, 1))
        self.same(pairings_of(RING, [2, 0], [0, 2]), (8, 17))
        ten = pairings_of(WIDE, tuple(range(10)), tuple(range(10)))
        self.same(ten, signed_pairings(pair_means(WIDE, tuple(range(10)))))

    def test_wrong(self):
        for row in NO_ROWS:
            self.raises(BadRow(), pairings_of, RING, row, None)
        for lot in NO_LOTS + ((0, 3), (3,), [0, 1, 2, 3]):
            self.raises(BadLot(), pairings_of, RING, (0, 2, 1), lot)


class TestOff(Case):
    def test_off(self):
        for at, web in enumerate(MIXED + LEAN):
            told = means_told(web)
            for row in rows_of(web, at):
                for size in range(2, len(row) + 1, 2):
                    for lot in itertools.combinations(row, size):
                        self.same(off(web, list(row), lot[::-1]), ratio(off_told(told, lot)))

    def test_blocks(self):
        for at, web in enumerate(NOT_BELOW + LEAN):
            for row in rows_of(web, at):
                smooth = smooth_told(web, row)
                for size in range(2, len(row) + 1, 2):
                    for lot in itertools.combinations(row, size):
                        found = off(web, row, lot)
                        self.same(off_by_blocks(web, list(row), lot[::-1]), found)
                        if smooth:
                            self.same(found, (0, 1))

    def test_wide(self):
        row = (9, 2, 4, 0, 7, 5)
        self.same(off(WIDE, row, (0, 2, 5, 9)), ratio(off_told(means_told(WIDE), (9, 2, 0, 5))))

    def test_wrong(self):
        for web, many, most in LARGE:
            self.raises(TooMany(many, most), off_by_blocks, web, None, None)
        self.raises(BelowZero(1), off_by_blocks, Web.line(HALF, (-1, 2), (-1, 2)), None, None)
        for call in (off, off_by_blocks):
            for row in NO_ROWS:
                self.raises(BadRow(), call, RING, row, None)
            for lot in NO_LOTS + ((0, 3), (3,), [0, 1, 2, 3], (), []):
                self.raises(BadLot(), call, RING, [0, 2, 1], lot)
            for lot in ((1,), [2, 1, 0]):
                self.raises(OddLot(), call, RING, (0, 2, 1), lot)


class TestChances(Case):
    def test_row_chance(self):
        for at, web in enumerate(MIXED + LEAN):
            whole = [(said, weight_of(web, said)) for said in all_sayings(web.many)]
            z = sum(weight for _, weight in whole)
            for row in rows_of(web, at):
                for said in all_sayings(len(row)):
                    part = sum(weight for s, weight in whole if all(s[p] == x for p, x in zip(row, said)))
                    self.same(row_chance(web, list(row), said), ratio(part / z))

    def test_row_by_pairing(self):
        for at, web in enumerate(MIXED + LEAN):
            told = means_told(web)
            for row in rows_of(web, at):
                k = len(row)

                def number(i, j):
                    mean = told[tuple(sorted((row[i], row[j])))] * said[i] * said[j] if j < k else 0
                    return (-1) ** (i + j + 1) + mean

                for said in all_sayings(k):
                    wanted = pairings_told(k + k % 2, number) / 2 ** k
                    self.same(row_by_pairing(web, row, list(said)), ratio(wanted))

    def test_smooth(self):
        for at, web in enumerate(NOT_BELOW + LEAN):
            for row in rows_of(web, at):
                if smooth_told(web, row):
                    for said in all_sayings(len(row)):
                        self.same(row_by_pairing(web, row, said), row_chance(web, row, said))

    def test_edges(self):
        for call in (row_chance, row_by_pairing):
            self.same(call(RING, (), []), (1, 1))
            self.same(call(WIDE, [7], (-1,)), (1, 2))
            self.same(call(RING, [1, 0], MyList([MyInt(-1), 1])), (7, 68))
        said = (1, -1, 1, 1, -1, 1, 1, 1, -1, 1)
        line = Web.line(*[HALF] * 9)
        for many in (9, 10):
            row = tuple(range(many))
            self.same(row_by_pairing(line, row, said[:many]), row_chance(line, row, said[:many]))

    def test_wrong(self):
        for call in (row_chance, row_by_pairing):
            for row in NO_ROWS:
                self.raises(BadRow(), call, RING, row, None)
            for said in NO_LISTS + ((), (1,), (1, 1, 1), (1, 0), [2, 1]) + tuple((1, x) for x in NO_INTEGERS):
                self.raises(BadSaying(), call, RING, (2, 0), said)
            self.raises(BadSaying(), call, RING, (), (1,))

    def test_all_lots_of_a_long_row(self):
        ring = Web.ring(*[HALF] * 6)
        for lot in even_lots(6):
            self.same(pairings_of(ring, range_row(6), lot), ratio(means_told(ring)[lot]))


def range_row(many):
    return tuple(range(many))


if __name__ == "__main__":
    unittest.main()
