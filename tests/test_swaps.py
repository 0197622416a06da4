"""leanwebs.swaps: point [53]."""

import unittest

from leanwebs.errors import BadCount, BadPlace, BadRow, TooMany
from leanwebs.sums import mean
from leanwebs.swaps import as_tie, laid, same_rim
from leanwebs.webs import Web
from tests.helper import (HALF, LEAN, MIXED, NO_INTEGERS, NO_LISTS, WIDE, Case, MyInt, MyList, Numbers, all_even,
                          mean_of, means_told, no_places, ratio)

LINE = Web.line(HALF, (1, 3))


class TestAsTie(Case):
    def test_values(self):
        for web in MIXED:
            for u in range(web.many):
                for v in range(web.many):
                    if u != v:
                        self.same(as_tie(web, u, v), ratio(mean_of(web, (u, v))))
        self.same(as_tie(LINE, MyInt(2), 0), (1, 6))

    def test_wrong(self):
        for place in no_places(3):
            self.raises(BadPlace(), as_tie, LINE, place, 0)
            self.raises(BadPlace(), as_tie, LINE, 0, place)
        self.raises(BadPlace(), as_tie, LINE, 1, 1)


class TestLaid(Case):
    def test_example(self):
        made = laid(Web.line(HALF), Web.line((1, 3), (1, 5)), (1, 0))
        self.same((made.many, made.ties), (3, ((0, 1, (1, 2)), (1, 0, (1, 3)), (0, 2, (1, 5)))))

    def test_known(self):
        part = Web(4, [(3, 1, HALF), (2, 2, (1, 3)), (0, 3, 0)])
        made = laid(LINE, part, MyList([MyInt(2), 0]))
        self.same((made.many, made.ties), (5, LINE.ties + ((4, 0, (1, 2)), (3, 3, (1, 3)), (2, 4, (0, 1)))))
        made = laid(LINE, part, ())
        self.assertEqual(made, LINE + part)
        made = laid(Web(4, LINE.ties), part, (3, 1, 0, 2))
        self.same(made.ties, LINE.ties + ((2, 1, (1, 2)), (0, 0, (1, 3)), (3, 2, (0, 1))))
        self.assertEqual(laid(LINE, Web(1, []), [1]), LINE)

    def test_as_one_tie(self):
        for at, part in enumerate(MIXED):
            if part.many > 1:
                web = Numbers(at).web(4, 3)
                both, one = laid(web, part, (3, 1)), web.with_tie(3, 1, as_tie(part, 0, 1))
                found, wanted = means_told(both), means_told(one)
                for lot in all_even(4):
                    self.assertEqual(found[lot], wanted[lot])

    def test_same_rims(self):
        # In the other part two ties in a row stand for the tie to place 0.
        star = Web(4, [(3, 0, (1, 6)), (3, 1, HALF), (3, 2, HALF)])
        other = Web(5, [(3, 4, HALF), (3, 1, HALF), (3, 2, HALF), (4, 0, (1, 3))])
        self.same(same_rim(star, other, 3), True)
        self.same(same_rim(star, other, 4), True)
        self.same(same_rim(star, Web.ring(HALF, HALF, HALF), 3), False)
        for row in ((0, 1, 2), (2, 0, 1)):
            one, two = means_told(laid(LINE, star, row)), means_told(laid(LINE, other, row))
            for lot in all_even(3):
                self.assertEqual(one[lot], two[lot])

    def test_rows_that_are_wrong(self):
        for row in NO_LISTS + tuple((0, place) for place in no_places(3)) + ((0, 0), [2, 1, 2]):
            self.raises(BadRow(), laid, LINE, Web(10, []), row)
        self.raises(BadRow(), laid, LINE, Web(2, []), (0, 1, 2))
        self.raises(BadRow(), laid, WIDE, Web(1, [(0, 0, HALF)]), (0, 1))

    def test_too_many(self):
        self.raises(TooMany(12, 10), laid, LINE, WIDE, [0])
        self.raises(TooMany(11, 10), laid, WIDE, LINE, [0, 1])
        self.raises(TooMany(12, 10), laid, WIDE, LINE, [0, 2, 1])
        self.same(laid(LINE, Web(8, []), [0]).many, 10)
        self.same(len(laid(Web(2, [(0, 1, HALF)] * 8), LINE, (0, 1))), 10)


class TestSameRim(Case):
    def test_values(self):
        made = MIXED + LEAN + tuple(web.with_tie(web.many - 1, web.many - 1, HALF) for web in MIXED)
        told = [means_told(web) for web in made]
        for one, means in zip(made, told):
            for other, there in zip(made, told):
                for many in range(1, min(one.many, other.many) + 1):
                    self.same(same_rim(one, other, many), all(means[lot] == there[lot] for lot in all_even(many)))

    def test_one_lot_alone_differs(self):
        one = Web(4, [])
        self.same([same_rim(one, Web(4, [(3, 2, HALF)]), many) for many in (1, 2, 3, 4)], [True, True, True, False])
        self.same(same_rim(WIDE, WIDE.with_pull(0, mean(WIDE, (0, 1))), 10), False)
        self.same(same_rim(WIDE, WIDE, MyInt(10)), True)

    def test_wrong(self):
        for many in NO_INTEGERS + (0, -1, 4, 10 ** 20):
            self.raises(BadCount(), same_rim, LINE, WIDE, many)
            self.raises(BadCount(), same_rim, WIDE, LINE, many)


if __name__ == "__main__":
    unittest.main()
