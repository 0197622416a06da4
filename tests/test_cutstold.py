"""leanwebs.cutstold: points [136] to [139]."""

import itertools
import unittest
from fractions import Fraction

from leanwebs.cutstold import entry, firm_lots, table_of, told_between, told_cut, told_firm
from leanwebs.errors import BadCount, BadPlace, BadTable, TooMany
from leanwebs.sums import mean
from leanwebs.trees import heaviest_tree, tree_told
from leanwebs.webs import Web
from tests.helper import (HALF, LEAN, MIXED, NO_INTEGERS, NO_LISTS, NO_RATIOS, WIDE, Case, MyInt, MyList, MyTuple,
                          Numbers, all_even, all_subsets, fraction, means_told, no_places, pairs_of, product, ratio,
                          ways_told)

SEVEN = Web(7, [(k, k + 1, (1, 2 + k)) for k in range(6)] + [(0, 2, HALF), (4, 6, (1, 3))])
NO_ENTRIES = NO_RATIOS + (1, -1, (3, 2), (-5, 4), [2, 2], 7)


def some_table(numbers, many):
    """A table of no web in particular, with entries not in lowest terms, equal ones, some 0."""
    return [[2 * (numbers.below(9) - 4), 10] if numbers.below(4) else numbers.below(1) for _ in pairs_of(many)]


def at(many, table, u, v):
    found = dict(zip(pairs_of(many), table))[(min(u, v), max(u, v))]
    return Fraction(found) if isinstance(found, int) else fraction(found)


def cut_told(many, table, x, u, w):
    return x in (u, w) or at(many, table, u, w) == at(many, table, u, x) * at(many, table, x, w)


def firm_told(many, is_uncut):
    """The greatest lots of two or more places in which each pair is uncut."""
    lots = [lot for lot in all_subsets(range(many)) if len(lot) > 1
            and all(is_uncut(u, v) for u, v in itertools.combinations(lot, 2))]
    return tuple(sorted(lot for lot in lots if not any(set(lot) < set(other) for other in lots)))


def uncut_in_web(web):
    def is_uncut(u, v):
        rows = ways_told(web, u, v)
        return not any(all(x in places for _, places in rows) for x in range(web.many) if x not in (u, v))
    return is_uncut


def tables():
    """Tables of webs and others, as tuples (many, table)."""
    found = [(web.many, table_of(web)) for web in MIXED + LEAN + (SEVEN,)]
    return found + [(1 + seed % 7, some_table(Numbers(seed), 1 + seed % 7)) for seed in range(40)]


class TestTableOf(Case):
    def test_values(self):
        for web in MIXED + LEAN + (SEVEN,):
            told = means_told(web)
            self.same(table_of(web), tuple(ratio(told[pair]) for pair in pairs_of(web.many)))

    def test_known(self):
        self.same((table_of(Web.line(HALF, (1, 3))), table_of(Web(1, [])), table_of(Web(2, [(1, 0, (-1, 3))]))),
                  ((HALF, (1, 6), (1, 3)), (), ((-1, 3),)))

    def test_wrong(self):
        self.raises(TooMany(8, 7), table_of, Web(8, []))
        self.raises(TooMany(10, 7), table_of, WIDE)


class TestEntry(Case):
    def test_values(self):
        for many, table in tables():
            for u, v in itertools.permutations(range(many), 2):
                self.same(entry(many, table, u, v), ratio(at(many, table, u, v)))
        self.same(entry(MyInt(2), MyList([MyTuple((MyInt(2), 4))]), MyInt(1), 0), HALF)

    def test_wrong_places(self):
        table = [0, 0, 0]
        for place in no_places(3):
            self.raises(BadPlace(), entry, 3, table, place, 0)
            self.raises(BadPlace(), entry, 3, table, 0, place)
        self.raises(BadPlace(), entry, 3, table, 1, 1)
        self.raises(BadPlace(), entry, 1, (), 0, 0)


class TestCut(Case):
    def test_values(self):
        for many, table in tables():
            for u, w in itertools.permutations(range(many), 2):
                for x in range(many):
                    self.same(told_cut(many, table, x, u, w), cut_told(many, table, x, u, w))

    def test_positive_webs(self):
        cuts = 0
        for web in LEAN + (SEVEN,):
            table = table_of(web)
            for u, w in itertools.permutations(range(web.many), 2):
                rows = [places for _, places in ways_told(web, u, w)]
                for x in range(web.many):
                    wanted = all(x in places for places in rows)
                    self.same(told_cut(web.many, list(table), x, u, w), wanted)
                    cuts += wanted
        self.assertGreater(cuts, 100)

    def test_wrong_places(self):
        for place in no_places(3):
            self.raises(BadPlace(), told_cut, 3, (0, 0, 0), place, 0, 1)
            self.raises(BadPlace(), told_cut, 3, (0, 0, 0), 0, place, 1)
            self.raises(BadPlace(), told_cut, 3, (0, 0, 0), 0, 1, place)
        self.raises(BadPlace(), told_cut, 3, (0, 0, 0), 0, 1, 1)


class TestBetween(Case):
    def test_values(self):
        for many, table in tables():
            for u, w in itertools.permutations(range(many), 2):
                middle = [x for x in range(many) if x not in (u, w) and cut_told(many, table, x, u, w)]
                middle.sort(key=lambda x: (-abs(at(many, table, u, x)), x))
                self.same(told_between(many, table, u, w), (u,) + tuple(middle) + (w,))

    def test_products(self):
        for web in LEAN + (SEVEN,):
            table = table_of(web)
            for u, w in itertools.permutations(range(web.many), 2):
                row = told_between(web.many, table, u, w)
                told = product(at(web.many, table, a, b) for a, b in zip(row, row[1:]))
                self.assertEqual(told, at(web.many, table, u, w))
                self.same(told_between(web.many, table, w, u), row[::-1])

    def test_known(self):
        table = table_of(Web.line(HALF, (1, 3)))
        self.same((told_between(3, table, 0, 2), told_between(3, table, 2, 0), told_between(3, table, 1, 0)),
                  ((0, 1, 2), (2, 1, 0), (1, 0)))
        # Sizes decide, not signs; equal sizes leave the lesser place first; in a table of zeros each place cuts.
        table = table_of(Web.line((-1, 3), (-1, 2), (1, 4)))
        self.same(told_between(4, list(table), 0, 3), (0, 1, 2, 3))
        self.same(told_between(4, [0] * 6, 3, 1), (3, 0, 2, 1))
        self.same(told_between(4, [0, [-1, 2], [1, 2], 0, 0, 0], 0, 1), (0, 2, 3, 1))
        self.same(told_between(4, [0, [1, 3], [-1, 2], 0, 0, 0], 0, 1), (0, 3, 2, 1))

    def test_wrong_places(self):
        for place in no_places(3):
            self.raises(BadPlace(), told_between, 3, (0, 0, 0), place, 1)
            self.raises(BadPlace(), told_between, 3, (0, 0, 0), 1, place)
        self.raises(BadPlace(), told_between, 3, (0, 0, 0), 2, 2)


class TestFirm(Case):
    def test_tables(self):
        for many, table in tables():
            wanted = firm_told(many, lambda u, v: not any(
                cut_told(many, table, x, u, v) for x in range(many) if x not in (u, v)))
            self.same(told_firm(many, table), wanted)

    def test_webs(self):
        for web in MIXED + LEAN + (SEVEN, Web(2, []), Web(3, []), Web(7, [])):
            self.same(firm_lots(web), firm_told(web.many, uncut_in_web(web)))

    def test_told_by_the_table(self):
        for web in LEAN + (SEVEN,):
            self.same(told_firm(web.many, table_of(web)), firm_lots(web))

    def test_means_within(self):
        for web in LEAN[:18]:
            for firm in firm_lots(web):
                inside = Web(web.many, [tie for tie in web.ties if tie[0] in firm and tie[1] in firm])
                for lot in all_even(web.many):
                    if set(lot) <= set(firm):
                        self.same(mean(inside, lot), mean(web, lot))

    def test_known(self):
        self.same((told_firm(3, table_of(Web.line(HALF, (1, 3)))), told_firm(1, ())), (((0, 1), (1, 2)), ()))
        self.same((told_firm(2, [0]), told_firm(3, [0] * 3)), (((0, 1),), ()))
        self.same((firm_lots(Web(1, [])), firm_lots(Web(2, [])), firm_lots(Web(3, [(0, 1, HALF)])), firm_lots(Web(3, []))),
                  ((), ((0, 1),), ((0, 1),), ()))
        bow = Web(5, [(0, 1, HALF), (1, 4, (-1, 3)), (4, 0, HALF), (4, 2, HALF), (2, 3, HALF), (3, 4, HALF)])
        self.same((firm_lots(bow), firm_lots(bow.with_pull(0, 0))), (((0, 1, 4), (2, 3, 4)), ((0, 4), (1, 4), (2, 3, 4))))

    def test_wrong(self):
        self.raises(TooMany(8, 7), firm_lots, Web(8, []))
        self.raises(TooMany(10, 7), firm_lots, WIDE)


class TestWrongTables(Case):
    calls = ((entry, 2), (told_cut, 3), (told_between, 2), (told_firm, 0), (heaviest_tree, 0), (tree_told, 0))

    def test_many(self):
        for call, more in self.calls:
            for many in NO_INTEGERS + (0, -1):
                self.raises(BadCount(), call, many, None, *[None] * more)
            for many in (8, 100):
                self.raises(TooMany(many, 7), call, many, None, *[None] * more)

    def test_tables(self):
        for call, more in self.calls:
            for table in NO_LISTS + ((), [HALF] * 5, (HALF,) * 7):
                self.raises(BadTable(-1), call, 4, table, *[None] * more)
            for k in range(6):
                for told in NO_ENTRIES:
                    table = [HALF] * 6
                    table[k] = told
                    self.raises(BadTable(k), call, 4, table, *[None] * more)
                    self.raises(BadTable(k), call, 4, tuple(table[:k + 1]) + (7,) * (5 - k), *[None] * more)


if __name__ == "__main__":
    unittest.main()
