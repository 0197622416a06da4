"""leanwebs.worths: points [91], [92] and [94]."""

import unittest

from leanwebs.clusters import cluster_chances, clusters
from leanwebs.doubled import weights_seen
from leanwebs.errors import (BadCount, BadLot, BadParting, BadRatio, BadSaying, BadTable, BelowZero, OddLot, TooMany,
                             UnlikeShapes)
from leanwebs.webs import Web
from leanwebs.worths import OneSum, PairSum, Sum, TwoSum
from tests.helper import (HALF, LEAN, MIXED, NO_INTEGERS, NO_NUMBERS, NO_RATIOS, NOT_BELOW, Case, MyInt, MyList, Numbers,
                          all_partings, all_sayings, cleared_told, fraction, is_even_in, joined_lots, means_told, ratio,
                          some_rows, value_told)

LARGE = Web(6, [(0, 0, (-1, 2))] * 10)


def ratios(rows):
    return tuple((lot, ratio(told)) for lot, told in rows)


def sums_of(seed, many):
    """A one-sum, a two-sum and a pair-sum with the same rows, the lot, and the rows."""
    numbers = Numbers(seed)
    lot, rows = numbers.even(many), some_rows(numbers, many, numbers.below(8))
    return (OneSum(many, rows), TwoSum(many, list(lot[::-1]), rows), PairSum(many, lot, tuple(rows)), lot, rows)


class TestSum(Case):
    def test_attributes(self):
        for seed in range(40):
            many = 1 + seed % 6
            one, two, pair, lot, rows = sums_of(seed, many)
            for found, wanted in ((one, ()), (two, lot), (pair, lot)):
                self.same((found.many, found.lot, found.rows), (many, wanted, ratios(cleared_told(rows))))
                self.same(len(found), len(cleared_told(rows)))
                self.assertIsInstance(found, Sum)
            found = Sum(many, lot, rows)
            self.same((found.many, found.lot, found.rows, len(found)), (many, lot, two.rows, len(two)))

    def test_cleared(self):
        rows = [((1, 0), 1), [(), [2, 4]], ((2, 3), -1), ((0, 1), (-3, 3)), ((3, 0), (6, 4)), ((1, 2), 0), [[], 1]]
        for found in (OneSum(4, rows), TwoSum(4, (), rows), PairSum(4, [], rows)):
            self.same(found.rows, (((), (3, 2)), ((0, 3), (3, 2)), ((2, 3), (-1, 1))))
            self.same(len(found), 3)
        self.same((OneSum(1, ()).rows, len(OneSum(2, [])), OneSum(2, [((), 1), ((), -1)]).rows), ((), 0, ()))
        rows = [((), 1), ((0, 1, 2, 3), 2), ((0, 1), 3), ((2, 3), 4), ((0, 2), 5)]
        self.assertEqual([lot for lot, _ in TwoSum(4, (3, 1), rows).rows], [(), (0, 1), (0, 2), (2, 3), (0, 1, 2, 3)])

    def test_own_kinds(self):
        found = TwoSum(MyInt(2), MyList([MyInt(1), 0]), MyList([MyList([MyList([1, MyInt(0)]), MyInt(3)])]))
        self.same((found.many, found.lot, found.rows), (2, (0, 1), (((0, 1), (3, 1)),)))
        lot, rows = [1, 0], [[[0, 1], [1, 2]]]
        found = PairSum(3, lot, rows)
        lot.append(2), rows[0][0].append(2), rows[0][1].append(2), rows.append(5)
        self.same((found.lot, found.rows), ((0, 1), (((0, 1), HALF),)))

    def test_wrong(self):
        for make in (lambda many, lot, rows: OneSum(many, rows), TwoSum, PairSum, Sum):
            for many in NO_INTEGERS + (0, -3):
                self.raises(BadCount(), make, many, (0,), [((0,), 1)])
            for many in (7, 12):
                self.raises(TooMany(many, 6), make, many, (0,), [((0,), 1)])
            for lot in NO_NUMBERS + ((3,), [0, 5]):
                self.raises(BadLot(), make, 3, (), [((), 1), (lot, None), ((0,), 1)])
            for lot in ((0,), [2, 0, 1]):
                self.raises(OddLot(), make, 3, (), [((), 1), (lot, None), (None, 1)])
            for number in NO_RATIOS:
                self.raises(BadRatio(), make, 3, (), [((), 1), ((0, 1), number), (None, 1)])
            make(6, (), [])
        for make in (TwoSum, PairSum, Sum):
            for lot in NO_NUMBERS + ((3,), [0, 5]):
                self.raises(BadLot(), make, 3, lot, [((0,), 1)])
            for lot in ((0,), [2, 0, 1]):
                self.raises(OddLot(), make, 3, lot, [((9,), 1)])


class TestSigns(Case):
    def test_arithmetic(self):
        for seed in range(30):
            many = 1 + seed % 5
            other = some_rows(Numbers(seed + 100), many, 5)
            one, two, pair, lot, rows = sums_of(seed, many)
            for found, make in ((one, lambda told: OneSum(many, told)), (two, lambda told: TwoSum(many, lot, told)),
                                (pair, lambda told: PairSum(many, lot, told))):
                added = found + make(other)
                self.assertIs(type(added), type(found))
                self.same((added.many, added.lot, added.rows), (many, found.lot, ratios(cleared_told(rows + other))))
                turned, thrice = -found, found * [6, 4]
                self.assertIs(type(turned), type(found))
                self.assertIs(type(thrice), type(found))
                self.same(turned.rows, ratios((lot, -told) for lot, told in cleared_told(rows)))
                self.same(thrice.rows, ratios((lot, told * 3 / 2) for lot, told in cleared_told(rows)))
                self.same(((found * 0).rows, (found + turned).rows, (found * 1) == found), ((), (), True))
                self.same((turned.lot, thrice.lot, found.rows), (found.lot, found.lot, ratios(cleared_told(rows))))

    def test_equal(self):
        rows = [((0, 1), 1), ((), (1, 2))]
        one, two, pair = OneSum(3, rows), TwoSum(3, (), rows), PairSum(3, (), rows)
        self.same((one == OneSum(3, rows[::-1]), two == TwoSum(3, [], rows + [((1, 2), 0)]), pair == PairSum(3, (), rows)),
                  (True, True, True))
        for a, b in ((one, two), (two, one), (two, pair), (pair, two), (pair, one), (one, pair), (one, OneSum(4, rows)),
                     (one, OneSum(3, rows[:1])), (two, TwoSum(3, (0, 1), rows)), (two, TwoSum(2, (), rows)),
                     (two, TwoSum(3, (), rows[1:])), (pair, PairSum(3, (2, 1), rows)), (pair, PairSum(2, (), rows)),
                     (pair, PairSum(3, (), [])), (one, 3), (two, None), (pair, rows), (one, Sum(3, (), rows))):
            self.same((a == b, a != b), (False, True))

    def test_wrong(self):
        rows = [((0, 1), 1)]
        one, two, pair = OneSum(3, rows), TwoSum(3, (0, 1), rows), PairSum(3, (0, 1), rows)
        for a, b in ((one, TwoSum(3, (), rows)), (TwoSum(3, (), rows), one), (TwoSum(3, (0, 1), rows), pair), (pair, two),
                     (one, OneSum(2, rows)), (two, TwoSum(2, (0, 1), rows)), (two, TwoSum(3, (1, 2), rows)),
                     (pair, PairSum(4, (0, 1), rows)), (pair, PairSum(3, (), rows)), (one, 1), (two, None), (pair, "a")):
            self.raises(BadTable(-1), lambda: a + b)
        for found in (one, two, pair, OneSum(1, [])):
            for number in NO_RATIOS:
                self.raises(BadRatio(), lambda: found * number)


class TestWorths(Case):
    def test_one_and_two(self):
        for at, web in enumerate(MIXED + LEAN):
            told = means_told(web)
            one, two, _, lot, rows = sums_of(at, web.many)
            self.same(one.worth(web), ratio(sum(told[row] * c for row, c in cleared_told(rows))))
            wanted = sum(told[row] * told[joined_lots(lot, row)] * c for row, c in cleared_told(rows))
            self.same(two.worth(web), ratio(wanted))

    def test_pairs(self):
        for at, web in enumerate(MIXED + LEAN):
            numbers = Numbers(at)
            other = Web(web.many, [(u, v, numbers.pull(-1)) for u, v, _ in web.ties])
            first, second = means_told(web), means_told(other)
            pair, lot, rows = sums_of(at, web.many)[2:]
            wanted = sum(first[joined_lots(lot, row)] * second[row] * c for row, c in cleared_told(rows))
            self.same(pair.worth(web, other), ratio(wanted))

    def test_known(self):
        one = TwoSum(3, (0, 2), [((), 1), ((0, 1), -1)])
        self.same((one.worth(Web.line(HALF, (1, 3))), one.worth(Web.ring(HALF, HALF, HALF))), ((0, 1), (2, 9)))
        pair = PairSum(2, (), [((0, 1), 1)])
        self.same(pair.worth(Web.line(HALF), Web.line((-1, 3))), (-1, 6))
        pair = PairSum(2, (0, 1), [((), 2)])
        self.same(pair.worth(Web.line(HALF), Web.line((-1, 3))), (1, 1))
        self.same((OneSum(3, []).worth(Web(3, [])), OneSum(3, [((), 5)]).worth(Web(3, []))), ((0, 1), (5, 1)))

    def test_wrong(self):
        web = Web.line(HALF, HALF)
        for other in (Web(2, []), Web(4, [(0, 0, (-1, 2))]), Web(10, [])):
            self.raises(BadCount(), OneSum(3, []).worth, other)
            self.raises(BadCount(), TwoSum(3, (), []).worth, other)
            self.raises(BadCount(), TwoSum(3, (), []).by_weights, other)
            self.raises(BadCount(), PairSum(3, (), []).worth, other, web)
            self.raises(UnlikeShapes(), PairSum(3, (), []).worth, web, other)
        self.raises(UnlikeShapes(), PairSum(3, (), []).worth, web, Web(3, [(1, 0, HALF), (1, 2, HALF)]))


class TestValues(Case):
    def test_values(self):
        for seed in range(30):
            many = 1 + seed % 5
            one, two, pair, lot, rows = sums_of(seed, many)
            for parting in all_partings(range(many)):
                loose = [list(block[::-1]) for block in parting[::-1]]
                self.same(one.at_parting(loose), ratio(value_told((), rows, parting)))
                self.same(two.at_parting(loose), ratio(value_told(lot, rows, parting)))
                for saying in all_sayings(many)[::3]:
                    self.same(pair.at_parting(loose, list(saying)), ratio(value_told(lot, rows, parting, saying)))

    def test_six_places(self):
        one, two, pair, lot, rows = sums_of(7, 6)
        saying = (1, -1, -1, 1, -1, 1)
        for parting in all_partings(range(6))[::7]:
            self.same(two.at_parting(parting), ratio(value_told(lot, rows, parting)))
            self.same(pair.at_parting(parting, saying), ratio(value_told(lot, rows, parting, saying)))

    def test_known(self):
        two = TwoSum(3, (0, 2), [((), 1), ((0, 1), -1)])
        self.same([two.at_parting(one) for one in (((0,), (1,), (2,)), ((0, 2), (1,)), [[2, 1, 0]])],
                  [(0, 1), (1, 1), (0, 1)])
        pair = PairSum(2, (), [((), 1), ((0, 1), 3)])
        self.same((pair.at_parting(((0, 1),), (1, -1)), pair.at_parting(((0,), (1,)), (1, -1))), ((-2, 1), (1, 1)))

    def test_wrong(self):
        pair = PairSum(3, (), [])
        for parting in NO_NUMBERS + (((0,), (1,)), [(0, 1), (1, 2)], ((0, 1, 2), ()), ((0, 1, 2, 3),)):
            self.raises(BadParting(), OneSum(3, []).at_parting, parting)
            self.raises(BadParting(), TwoSum(3, (), []).at_parting, parting)
            self.raises(BadParting(), pair.at_parting, parting, None)
        for saying in (None, (), (1, 1), (1, 1, 1, 1), (1, 0, 1), (1, True, 1), "+-+", {0: 1, 1: 1, 2: 1}):
            self.raises(BadSaying(), pair.at_parting, ((0, 1, 2),), saying)


class TestByWeights(Case):
    def test_two_sums(self):
        for at, web in enumerate(NOT_BELOW + LEAN[:14]):
            for seed in (at, at + 50):
                two = sums_of(seed, web.many)[1]
                self.same(two.by_weights(web), two.worth(web))
                seen = weights_seen(web, two.lot, tuple(range(web.many)))
                wanted = sum(fraction(weight) * fraction(two.at_parting(parting)) for parting, weight in seen)
                self.same(two.by_weights(web), ratio(wanted))

    def test_one_sums_by_clusters(self):
        for at, web in enumerate(NOT_BELOW + LEAN[:12]):
            one = sums_of(at, web.many)[0]
            wanted = sum(fraction(told) * fraction(one.at_parting(clusters(web, bundle)))
                         for bundle, told in cluster_chances(web))
            self.same(one.worth(web), ratio(wanted))

    def test_partings_above_zero(self):
        for web in LEAN[:14]:
            for lot in ((), (0, 1) if web.many > 1 else ()):
                hanging = [one for one in all_partings(range(web.many)) if is_even_in(lot, one)
                           and all(len(block) == 1 or self.joined(web, block) for block in one)]
                self.assertEqual([one for one, _ in weights_seen(web, lot, tuple(range(web.many)))], hanging)

    def joined(self, web, block):
        reached, grows = {block[0]}, True
        while grows:
            more = {b for u, v, _ in web.ties for a, b in ((u, v), (v, u)) if a in reached and b in block} - reached
            reached, grows = reached | more, bool(more)
        return reached == set(block)

    def test_wrong(self):
        two = TwoSum(6, (), [])
        self.raises(TooMany(10, 9), two.by_weights, LARGE)
        self.raises(BelowZero(1), two.by_weights, Web(6, [(0, 1, 0), (0, 1, (-1, 2)), (1, 2, (-1, 2))]))
        self.raises(BadCount(), TwoSum(5, (), []).by_weights, LARGE)
        self.same(two.worth(LARGE), (0, 1))


if __name__ == "__main__":
    unittest.main()
