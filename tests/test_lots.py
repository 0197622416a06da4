"""leanwebs.lots: point [3], and partings of [8]."""

import unittest

from leanwebs.errors import BadCount, BadLot, BadParting, BadSaying, TooMany
from leanwebs.lots import (contrary, even_lots, joined, lot_of, lots, parting_of, saying_of, sayings, sign_at)
from tests.helper import NO_INTEGERS, NO_NUMBERS, Case, MyInt, MyList, MyTuple, all_partings, all_sayings, all_subsets

NO_SAYINGS = (None, 1, "11", {1: 1, -1: -1}, {1, -1}, (1, 0), (1, 2), (1, True), (True, True), (1, 1.0), (1, "1"),
              (1, None), ((1, 1),), ((1,), (1,)))


class TestCounts(Case):
    def test_bad_counts_come_first(self):
        calls = ((lots,), (even_lots,), (sayings,), (lot_of, None), (saying_of, None))
        for call, *rest in calls:
            for many in NO_INTEGERS + (0, -1, -10):
                with self.subTest((call.__name__, many)):
                    self.raises(BadCount(), call, *rest, many)
            for many in (11, 12, 10 ** 30):
                with self.subTest((call.__name__, many)):
                    self.raises(TooMany(many, 10), call, *rest, many)

    def test_subclass(self):
        self.same(lots(MyInt(2)), lots(2))
        error = self.raises(TooMany(11, 10), lots, MyInt(11))
        self.assertIs(type(error.many), int)


class TestLots(Case):
    def test_lot_of(self):
        for lot, wanted in (((), ()), ([], ()), ([2, 0], (0, 2)), ((9, 3, 5), (3, 5, 9)), ((0,), (0,))):
            self.same(lot_of(lot, 10), wanted)
        self.same(lot_of(MyTuple([MyInt(1), MyInt(0)]), 2), (0, 1))
        self.same(lot_of(MyList([1]), 2), (1,))
        self.same(lot_of(MyTuple(), 2), ())

    def test_no_lot(self):
        for lot in NO_NUMBERS + ((2,), (0, 2), (0, 10 ** 20)):
            with self.subTest(lot):
                self.raises(BadLot(), lot_of, lot, 2)

    def test_joined(self):
        self.same(joined((), ()), ())
        self.same(joined([3, 1], (1, 2)), (2, 3))
        self.same(joined((5, 0), []), (0, 5))
        self.same(joined((1, 0), [0, 1]), ())
        self.same(joined((100, 3), (7,)), (3, 7, 100))
        self.same(joined(MyTuple([MyInt(4)]), MyList([MyInt(2)])), (2, 4))

    def test_joined_wrong(self):
        for lot in NO_NUMBERS:
            self.raises(BadLot(), joined, lot, ())
            self.raises(BadLot(), joined, (0,), lot)

    def test_lots(self):
        self.same(lots(1), [(), (0,)])
        self.same(lots(3), [(), (0,), (1,), (2,), (0, 1), (0, 2), (1, 2), (0, 1, 2)])
        self.same(even_lots(1), [()])
        self.same(even_lots(3), [(), (0, 1), (0, 2), (1, 2)])
        for many in range(1, 11):
            self.same(lots(many), all_subsets(range(many)))
            self.same(even_lots(many), [lot for lot in lots(many) if len(lot) % 2 == 0])
        self.assertEqual(len(lots(10)), 1024)

    def test_lists_are_new(self):
        for call in (lots, even_lots, sayings):
            call(2).clear()
            self.assertTrue(call(2))


class TestSayings(Case):
    def test_sayings(self):
        self.same(sayings(1), [(1,), (-1,)])
        self.same(sayings(2), [(1, 1), (1, -1), (-1, 1), (-1, -1)])
        for many in range(1, 11):
            self.same(sayings(many), all_sayings(many))

    def test_saying_of(self):
        self.same(saying_of([1, -1], 2), (1, -1))
        self.same(saying_of((-1,), 1), (-1,))
        self.same(saying_of(MyTuple([MyInt(1), MyInt(-1)]), 2), (1, -1))
        self.same(saying_of(MyTuple([1, 1]), 2), (1, 1))

    def test_no_saying(self):
        for saying in NO_SAYINGS + ((), (1,), (1, 1, 1), [1, 1, 1]):
            with self.subTest(saying):
                self.raises(BadSaying(), saying_of, saying, 2)

    def test_contrary(self):
        self.same(contrary([1, -1, 1]), (-1, 1, -1))
        self.same(contrary((MyInt(1),)), (-1,))
        self.same(contrary((1,) * 10), (-1,) * 10)

    def test_sign_at(self):
        self.same(sign_at((1, -1, -1), ()), 1)
        self.same(sign_at([1, -1, -1], [2, 1]), 1)
        self.same(sign_at((1, -1, -1), (1, 0)), -1)
        self.same(sign_at((MyInt(-1),), (MyInt(0),)), -1)
        self.same(sign_at((-1,) * 10, tuple(range(9))), -1)

    def test_wrong_sayings(self):
        for saying in NO_SAYINGS + ((), [], (1,) * 11):
            with self.subTest(saying):
                self.raises(BadSaying(), contrary, saying)
                self.raises(BadSaying(), sign_at, saying, None)

    def test_sign_at_wrong_lot(self):
        for lot in NO_NUMBERS + ((2,), (0, 3)):
            with self.subTest(lot):
                self.raises(BadLot(), sign_at, (1, -1), lot)


class TestPartings(Case):
    def test_parting_of(self):
        self.same(parting_of([[2, 0], (1,)], (0, 1, 2)), ((0, 2), (1,)))
        self.same(parting_of(((7,), [5, 3]), [5, 7, 3]), ((3, 5), (7,)))
        self.same(parting_of((), ()), ())
        self.same(parting_of([], []), ())
        self.same(parting_of(MyList([MyTuple([MyInt(1), 0])]), MyTuple([0, MyInt(1)])), ((0, 1),))
        for parting in all_partings(range(5)):
            turned = [list(block)[::-1] for block in parting[::-1]]
            self.same(parting_of(turned, [4, 2, 0, 1, 3]), parting)

    def test_wrong_places_first(self):
        for places in NO_NUMBERS:
            with self.subTest(places):
                self.raises(BadLot(), parting_of, None, places)

    def test_no_parting(self):
        for parting in (None, 0, "ab", {(0, 1): 1, (2,): 1}, (), ((0, 1),), ((0, 1, 2), ()), ((0, 1), (1, 2)),
                        ((0, 1, 2, 3),), ((0, 1, 3),), (0, 1, 2), ((0, 0, 1, 2),), ((0,), (0, 1, 2)), ((0, True, 2),),
                        ((False, 1, 2),), ((0, 1), 2), ("01", (2,)), ((0, 1, 2.0),), ({0, 1}, (2,)), ((-1, 0, 1, 2),)):
            with self.subTest(parting):
                self.raises(BadParting(), parting_of, parting, (0, 1, 2))
        self.raises(BadParting(), parting_of, ((),), ())


if __name__ == "__main__":
    unittest.main()
