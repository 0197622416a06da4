"""leanwebs.trees: point [140]."""

import itertools
import unittest

from leanwebs.cutstold import table_of
from leanwebs.errors import BadTable
from leanwebs.trees import heaviest_tree, tree_told
from leanwebs.webs import Web
from tests.helper import (HALF, LEAN, MIXED, Case, MyInt, MyList, Numbers, fraction, pairs_of, parts_of, ratio)


def without_zero(numbers, many):
    """A table without an entry 0, with equal sizes and both signs."""
    return [[2 * ((-1) ** numbers.below(2) * (1 + numbers.below(5))), 12] for _ in pairs_of(many)]


def heaviest_told(many, table):
    """The pairs kept, by falling size, the lesser pair first."""
    rows = sorted(zip(pairs_of(many), table), key=lambda row: (-abs(fraction(row[1])), row[0]))
    kept = []
    for (u, v), _ in rows:
        if not any(u in block and v in block for block in parts_of(range(many), kept)):
            kept.append((u, v))
    return tuple(sorted(kept))


def all_trees(many):
    """The pairs of all trees on the places."""
    return [pairs for pairs in itertools.combinations(pairs_of(many), many - 1)
            if len(parts_of(range(many), pairs)) == 1]


def tree_webs():
    """Tree webs with pulls of all signs, ties and ends in any order."""
    found = []
    for seed in range(60):
        numbers, many = Numbers(seed), 1 + seed % 7
        ties = [(place, numbers.below(place)) for place in range(1, many)]
        ties = [pair if numbers.below(2) else pair[::-1] for pair in ties]
        size = (1, 2 + numbers.below(3))
        pulls = [size if seed % 3 == 0 else (1 + numbers.below(4), 6) for _ in ties]
        told = [(u, v, (p * (-1) ** numbers.below(2), q)) for (u, v), (p, q) in zip(ties, pulls)]
        found.append(Web(many, told[::-1] if seed % 2 else told))
    return found


class TestHeaviest(Case):
    def test_values(self):
        for seed in range(80):
            many = 1 + seed % 7
            table = without_zero(Numbers(seed), many)
            found = heaviest_tree(many, table)
            self.same(found, heaviest_told(many, table))
            self.assertEqual(len(found), many - 1)
            self.assertEqual(len(parts_of(range(many), found)), 1)

    def test_known(self):
        self.same((heaviest_tree(1, ()), heaviest_tree(2, [[-2, 6]]), heaviest_tree(3, [HALF] * 3)),
                  ((), ((0, 1),), ((0, 1), (0, 2))))
        self.same(heaviest_tree(MyInt(3), MyList([HALF, (-3, 5), [6, 10]])), ((0, 2), (1, 2)))
        self.same(heaviest_tree(4, [(1, 4), (1, 9), (1, 3), (-1, 2), (1, 5), (1, 3)]), ((0, 3), (1, 2), (2, 3)))

    def test_wrong(self):
        for call in (heaviest_tree, tree_told):
            for k in range(6):
                table = [HALF] * k + [[0, 5]] + [0] * (5 - k)
                self.raises(BadTable(k), call, 4, table)
            self.raises(BadTable(3), call, 4, (0, 0, 0, 1, 0, 0))
            self.raises(BadTable(-1), call, 4, (0, 0, 0, 1, 0))


class TestTold(Case):
    def test_tree_webs(self):
        for web in tree_webs():
            table = table_of(web)
            found = tree_told(web.many, list(table))
            self.assertIs(type(found), Web)
            wanted = sorted((min(u, v), max(u, v), t) for u, v, t in web.ties)
            self.same((found.many, found.ties), (web.many, tuple(wanted)))
            self.same(table_of(found), table)
            self.same(heaviest_tree(web.many, table), tuple((u, v) for u, v, _ in wanted))

    def test_no_other_tree_web(self):
        for web in tree_webs()[:40]:
            if web.many in (3, 4):
                table, count = table_of(web), 0
                told = dict(zip(pairs_of(web.many), table))
                for pairs in all_trees(web.many):
                    count += table_of(Web(web.many, [(u, v, told[(u, v)]) for u, v in pairs])) == table
                self.assertEqual(count, 1)

    def test_against_all_trees(self):
        for seed in range(60):
            many = 2 + seed % 3
            table = [ratio(fraction(one)) for one in without_zero(Numbers(seed), many)]
            told = dict(zip(pairs_of(many), table))
            webs = [Web(many, [(u, v, told[(u, v)]) for u, v in pairs]) for pairs in all_trees(many)]
            fine = [web.ties for web in webs if list(table_of(web)) == table]
            found = tree_told(many, table)
            self.assertEqual(None if found is None else found.ties, fine[0] if fine else None)

    def test_other_webs(self):
        for web in MIXED + LEAN:
            table = table_of(web)
            if (0, 1) not in table:
                found = tree_told(web.many, table)
                merged = web.merged()
                self.same(found is not None, len(merged.ties) == web.many - 1)

    def test_known(self):
        table = table_of(Web.line(HALF, (1, 3)))
        self.same(tree_told(3, table).ties, ((0, 1, HALF), (1, 2, (1, 3))))
        self.same((tree_told(1, []).shape, tree_told(2, [(-2, 6)]).ties), ((1, ()), ((0, 1, (-1, 3)),)))
        self.same(tree_told(3, [HALF, (1, 4), HALF]).ties, ((0, 1, HALF), (1, 2, HALF)))
        self.same((tree_told(3, [HALF, (1, 5), HALF]), tree_told(3, [HALF, (-1, 4), HALF])), (None, None))


if __name__ == "__main__":
    unittest.main()
