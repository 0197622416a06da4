"""leanwebs.spreads: points [10] and [14]."""

import unittest
from fractions import Fraction

from leanwebs.errors import BadCount, BadLot, BadPlace, BadRatio, BadSaying, BadSpread, NotWebs, OddLot, TooMany
from leanwebs.lots import even_lots, lots, sayings
from leanwebs.ratios import odds_of
from leanwebs.spreads import Spread, is_webs, spread_of_means, squares, unlike_boxes
from leanwebs.sums import chance, mean, means
from leanwebs.webs import Web
from tests.helper import (HALF, MIXED, NO_INTEGERS, NO_NUMBERS, NO_RATIOS, WIDE, Case, MyInt, MyList, MyTuple, Numbers,
                          fraction, ratio)

STAR = Web.star(HALF, HALF, HALF)
FOUR = Web.star(HALF, HALF, HALF, HALF)
UNLIKE = Spread.of(FOUR).left_out((0,))
SEVEN = Web(7, [(k % 7, (2 * k + 1) % 7, (2 * k - 9, 12)) for k in range(10)])


def box_of(spread, u, v, saying):
    """The box as point [10] tells it."""
    said = dict(enumerate(saying))
    if said[u] != said[v]:
        said[v] = -said[v]

    def p(*places):
        return fraction(spread.chance([-said[k] if k in places else said[k] for k in sorted(said)]))

    return p() * p(u, v) / (p(u) * p(v))


class TestMaking(Case):
    def test_attributes(self):
        spread = Spread([HALF, [2, 4]])
        self.same((spread.many, spread.rows), (1, ((1, 2), (1, 2))))
        spread = Spread(([1, 8], (3, 8), (6, 16), (1, 8)))
        self.same((spread.many, spread.rows), (2, ((1, 8), (3, 8), (3, 8), (1, 8))))
        self.same(Spread(MyList([MyTuple([MyInt(1), MyInt(2)])] * 2)).rows, ((1, 2), (1, 2)))

    def test_nothing_is_kept(self):
        row = [1, 2]
        rows = [row, row]
        spread = Spread(rows)
        row[0] = 3
        rows.append(0)
        self.same(spread.rows, ((1, 2), (1, 2)))

    def test_greatest(self):
        self.same(Spread([(1, 128)] * 128).many, 7)

    def test_wrong_length(self):
        for rows in (None, 1, "ab", {0: HALF, 1: HALF}, (), (1,), [None] * 3, [0] * 5, [(1, 256)] * 256, [None] * 127):
            self.raises(BadSpread(-1), Spread, rows)

    def test_wrong_entry(self):
        for entry in NO_RATIOS + (0, (0, 3), -1, (-1, 8)):
            with self.subTest(entry):
                self.raises(BadSpread(0), Spread, [entry, HALF])
                self.raises(BadSpread(3), Spread, [(1, 8), (3, 8), (3, 8), entry])
        self.raises(BadSpread(2), Spread, [(1, 8), (2, 8), 0, None])
        # An entry that is none is told before a contrary that is another.
        self.raises(BadSpread(3), Spread, [(1, 8), (3, 8), (2, 8), 0])

    def test_unlike_contrary(self):
        self.raises(BadSpread(0), Spread, [(1, 8), (3, 8), (2, 8), (2, 8)])
        self.raises(BadSpread(1), Spread, [(1, 8), (3, 8), (2, 8), (1, 8)])
        self.raises(BadSpread(0), Spread, [(1, 3), (2, 3)])

    def test_wrong_sum(self):
        self.raises(BadSpread(-1), Spread, [1, 1])
        self.raises(BadSpread(-1), Spread, [(1, 4), (1, 5), (1, 5), (1, 4)])

    def test_of(self):
        for web in MIXED:
            spread = Spread.of(web)
            self.assertIsInstance(spread, Spread)
            self.same(spread.rows, tuple(chance(web, saying) for saying in sayings(web.many)))
            self.same(spread.many, web.many)
        self.same(Spread.of(SEVEN).many, 7)
        self.raises(TooMany(8, 7), Spread.of, Web(8, []))
        self.raises(TooMany(10, 7), Spread.of, WIDE)

    def test_equal(self):
        self.assertIs(Spread.of(STAR) == Spread.of(STAR.merged()), True)
        self.assertIs(Spread.of(STAR) != Spread.of(STAR), False)
        for other in (Spread.of(-STAR), Spread.of(Web(3, [])), Spread.of(STAR).rows, None, STAR):
            self.assertIs(Spread.of(STAR) == other, False)


class TestReading(Case):
    def test_chance_and_mean(self):
        for web in MIXED + (SEVEN,):
            spread = Spread.of(web)
            for saying in sayings(web.many)[:40]:
                self.same(spread.chance(list(saying)), chance(web, saying))
            for lot in lots(web.many)[:40]:
                self.same(spread.mean(lot[::-1]), mean(web, lot))

    def test_wrong(self):
        spread = Spread.of(Web(2, []))
        for saying in (None, (1,), (1, 1, 1), (1, 0), (True, 1), "11"):
            self.raises(BadSaying(), spread.chance, saying)
            self.raises(BadSaying(), spread.box, 0, 1, saying)
        for lot in NO_NUMBERS + ((2,),):
            self.raises(BadLot(), spread.mean, lot)
            self.raises(BadLot(), spread.left_out, lot)
        for place in NO_INTEGERS + (-1, 2):
            self.raises(BadPlace(), spread.box, place, 1, None)
            self.raises(BadPlace(), spread.box, 0, place, None)
        self.raises(BadPlace(), spread.box, 1, 1, (1, 1))

    def test_left_out(self):
        for web in MIXED:
            spread = Spread.of(web)
            for lot in lots(web.many)[:-1]:
                rest = [place for place in range(web.many) if place not in lot]
                found = spread.left_out(list(lot))
                wanted = {}
                for saying in sayings(web.many):
                    told = tuple(saying[place] for place in rest)
                    wanted[told] = wanted.get(told, 0) + fraction(chance(web, saying))
                self.same(found.rows, tuple(ratio(wanted[saying]) for saying in sayings(len(rest))))
                self.same(found.many, len(rest))
                for inner in lots(len(rest)):
                    self.same(found.mean(inner), spread.mean(tuple(rest[k] for k in inner)))
            self.assertIsNot(spread.left_out(()), spread)
            self.assertEqual(spread.left_out(()), spread)
            self.raises(BadLot(), spread.left_out, tuple(range(web.many)))

    def test_box(self):
        self.same(Spread.of(Web.line(HALF)).box(0, 1, (1, 1)), (9, 1))
        self.same(Spread.of(Web.line((-1, 2))).box(1, 0, [1, -1]), (1, 9))
        for spread in (UNLIKE, Spread.of(MIXED[7]), Spread.of(MIXED[9])):
            for u in range(spread.many):
                for v in range(spread.many):
                    for saying in sayings(spread.many):
                        if u != v:
                            self.same(spread.box(u, v, list(saying)), ratio(box_of(spread, u, v, saying)))
        self.same(UNLIKE.box(MyInt(0), MyInt(1), (1, 1, 1, 1)), UNLIKE.box(0, 1, (1, 1, 1, 1)))
        # The second place is the one that is changed if the two say unlike things.
        self.same(UNLIKE.box(0, 1, (-1, 1, 1, 1)), UNLIKE.box(0, 1, (-1, -1, 1, 1)))
        self.assertNotEqual(UNLIKE.box(0, 1, (-1, 1, 1, 1)), UNLIKE.box(1, 0, (-1, -1, 1, -1)))


class TestMeans(Case):
    def test_back(self):
        for web in MIXED:
            told = means(web)
            self.assertEqual(spread_of_means(web.many, told), Spread.of(web))
            turned = [[list(lot)[::-1], list(value)] for lot, value in told[::-1] if lot and value[0]]
            self.assertEqual(spread_of_means(web.many, turned), Spread.of(web))

    def test_plain(self):
        self.same(spread_of_means(1, []).rows, ((1, 2), (1, 2)))
        self.same(spread_of_means(2, ()).rows, ((1, 4),) * 4)
        self.same(spread_of_means(2, [([1, 0], [2, 4])]).rows, ((3, 8), (1, 8), (1, 8), (3, 8)))
        self.same(spread_of_means(3, [((), 1), ((0, 2), 0)]).rows, ((1, 8),) * 8)
        self.same(spread_of_means(7, []).rows, ((1, 128),) * 128)
        found = spread_of_means(4, [((0, 1, 2, 3), HALF)])
        self.same([found.mean(lot) for lot in even_lots(4)], [(1, 1)] + [(0, 1)] * 6 + [(1, 2)])

    def test_wrong_count(self):
        for many in NO_INTEGERS + (0, -1):
            self.raises(BadCount(), spread_of_means, many, None)
        self.raises(TooMany(8, 7), spread_of_means, 8, None)

    def test_wrong_rows(self):
        for rows in (None, 0, "ab", {(0, 1): HALF}):
            self.raises(BadSpread(-1), spread_of_means, 3, rows)
        for row in (None, 0, "ab", (), ((0, 1),), ((0, 1), HALF, 0), {(0, 1): 0, 1: 1}):
            self.raises(BadSpread(-1), spread_of_means, 3, [row, None])
            self.raises(BadSpread(-1), spread_of_means, 3, [((0, 2), 0), row])

    def test_wrong_lot(self):
        for lot in NO_NUMBERS + ((3,), (0, 3)):
            self.raises(BadLot(), spread_of_means, 3, [(lot, None)])
        self.raises(BadLot(), spread_of_means, 3, [((0, 1), 0), ([1, 0], None)])
        self.raises(BadLot(), spread_of_means, 3, [((), 1), ([], 1)])
        for lot in ((0,), [1], (2, 1, 0)):
            self.raises(OddLot(), spread_of_means, 3, [((0, 1), 0), (lot, None)])

    def test_wrong_mean(self):
        for value in NO_RATIOS:
            self.raises(BadRatio(), spread_of_means, 3, [((0, 1), value), None])
            self.raises(BadRatio(), spread_of_means, 3, [((), value)])
        for value in (0, (1, 2), -1, 2):
            self.raises(BadRatio(), spread_of_means, 3, [((), value)])
        self.assertEqual(spread_of_means(1, [((), (5, 5))]).many, 1)

    def test_chance_not_above_zero(self):
        self.raises(BadSpread(0), spread_of_means, 2, [((0, 1), -1)])
        self.raises(BadSpread(1), spread_of_means, 2, [((0, 1), 1)])
        self.raises(BadSpread(1), spread_of_means, 2, [((0, 1), (7, 2))])
        self.raises(BadSpread(0), spread_of_means, 3, [((0, 1), (-1, 3)), ((0, 2), (-1, 3)), ((1, 2), (-1, 3))])
        self.raises(BadSpread(2), spread_of_means, 3, [((0, 1), (1, 3)), ((0, 2), (-1, 3)), ((1, 2), (1, 3))])
        self.raises(BadRatio(), spread_of_means, 2, [((0, 1), 5), ((), 0)])


class TestWebsOfSpreads(Case):
    def test_examples(self):
        rest = Spread.of(STAR).left_out((0,))
        self.same(squares(rest), (((0, 1), (7, 3)), ((0, 2), (7, 3)), ((1, 2), (7, 3))))
        self.same([rest.mean(lot) for lot in ((0, 1), (0, 2), (1, 2))], [(1, 4)] * 3)
        self.same(unlike_boxes(UNLIKE), (0, 1, (1, 1, 1, 1), (1, 1, 1, -1)))

    def test_webs_have_like_boxes(self):
        for web in MIXED + (SEVEN,):
            spread = Spread.of(web)
            self.assertIsNone(unlike_boxes(spread))
            self.assertIs(is_webs(spread), True)
            pulls = {(u, v): t for u, v, t in web.merged()}
            wanted = []
            for u in range(web.many):
                for v in range(u + 1, web.many):
                    square = fraction(odds_of(pulls.get((u, v), 0))) ** 2
                    wanted.append(((u, v), ratio(square)))
                    for saying in sayings(web.many)[:8]:
                        self.same(spread.box(u, v, saying), ratio(square))
            self.same(squares(spread), tuple(wanted))

    def test_other_spreads(self):
        kinds = set()
        for seed in range(40):
            numbers = Numbers(seed)
            many = 2 + seed % 3
            rows = [(lot, numbers.pull(-1)) for lot in even_lots(many)[1:]]
            rows = [(lot, ratio(fraction(t) / 8)) for lot, t in rows]
            spread = spread_of_means(many, rows)
            wanted = None
            for u in range(many):
                for v in range(u + 1, many):
                    told = [s for s in sayings(many) if s[u] == s[v] == 1]
                    unlike = [s for s in told if box_of(spread, u, v, s) != box_of(spread, u, v, told[0])]
                    if unlike and wanted is None:
                        wanted = (u, v, told[0], unlike[0])
            self.same(unlike_boxes(spread), wanted)
            self.assertIs(is_webs(spread), wanted is None)
            kinds.add(wanted and wanted[:2])
            if wanted:
                self.raises(NotWebs(*wanted[:2]), squares, spread)
        self.assertGreater(len(kinds), 1)

    def test_first_pair_that_differs(self):
        # Places 1 to 4 form no web's spread, place 0 stands apart.
        apart = Spread.of(Web(6, [(1, k, HALF) for k in (2, 3, 4, 5)])).left_out((1,))
        self.same(unlike_boxes(apart), (1, 2, (1,) * 5, (1, 1, 1, 1, -1)))
        self.raises(NotWebs(1, 2), squares, apart)
        self.assertIs(is_webs(apart), False)

    def test_small(self):
        self.same(squares(Spread([HALF, HALF])), ())
        self.assertIsNone(unlike_boxes(Spread([HALF, HALF])))
        # A pull that is no ratio: its odds are the root of 2.
        spread = spread_of_means(2, [((0, 1), (1, 3))])
        self.same(squares(spread), (((0, 1), (4, 1)),))
        self.same(squares(spread_of_means(2, [((0, 1), (1, 7))])), (((0, 1), (16, 9)),))

    def test_merged_webs_tell_spreads_apart(self):
        webs = [web for web in MIXED if web.many == 4] + [Web.ring(HALF, HALF, HALF, HALF), Web(4, [])]
        for one in webs:
            self.assertEqual(Spread.of(one), Spread.of(one.merged()))
            for other in webs:
                self.assertEqual(Spread.of(one) == Spread.of(other), one.merged() == other.merged())

    def test_sum_of_chances(self):
        for spread in (UNLIKE, Spread.of(SEVEN)):
            self.assertEqual(sum(fraction(one) for one in spread.rows), Fraction(1))
            self.assertEqual(spread.mean(()), (1, 1))


if __name__ == "__main__":
    unittest.main()
