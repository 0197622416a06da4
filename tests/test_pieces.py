"""leanwebs.pieces: point [5]."""

import unittest

from leanwebs.errors import Apart, BadLot, BelowZero, NotPositive
from leanwebs.pieces import hangs, hangs_within, need_hanging, need_not_below, need_positive, pieces
from leanwebs.webs import Web
from tests.helper import HALF, MIXED, NO_NUMBERS, WIDE, Case, all_subsets, parts_of


class TestPieces(Case):
    def test_pieces(self):
        self.same(pieces(Web(1, [])), ((0,),))
        self.same(pieces(Web(3, [])), ((0,), (1,), (2,)))
        self.same(pieces(Web.line(HALF, 0, (-1, 3))), ((0, 1), (2, 3)))
        self.same(pieces(Web(5, [(4, 0, HALF), (3, 1, (-1, 2)), (2, 2, HALF)])), ((0, 4), (1, 3), (2,)))
        self.same(pieces(Web(4, [(3, 2, HALF), (2, 1, HALF), (1, 0, HALF)])), ((0, 1, 2, 3),))
        self.same(pieces(WIDE), parts_of(range(10), [tie[:2] for tie in WIDE.ties]))

    def test_all_webs(self):
        for web in MIXED:
            found = parts_of(range(web.many), [(u, v) for u, v, (p, q) in web.ties if p])
            self.same(pieces(web), found)
            self.same(hangs(web), len(found) == 1)
            if len(found) == 1:
                self.assertIsNone(need_hanging(web))
            else:
                self.raises(Apart(), need_hanging, web)

    def test_hangs_within(self):
        ring = Web.ring(HALF, 0, HALF, (-1, 3))
        self.same([hangs_within(ring, lot) for lot in ((), (0,), (0, 1), [2, 1], (0, 2), (3, 0, 1), (0, 1, 2, 3))],
                  [False, True, True, True, False, True, True])
        for web in MIXED:
            for lot in all_subsets(range(web.many)):
                inner = [tie[:2] for tie in web.ties if tie[0] in lot and tie[1] in lot]
                self.same(hangs_within(web, lot[::-1]), len(parts_of(lot, inner)) == 1)
        for lot in NO_NUMBERS + ((4,),):
            self.raises(BadLot(), hangs_within, ring, lot)

    def test_needs(self):
        self.assertIsNone(need_positive(Web(2, [])))
        self.assertIsNone(need_positive(Web.line(HALF, HALF)))
        self.assertIsNone(need_not_below(Web.line(HALF, 0)))
        self.assertIsNone(need_hanging(Web.line(HALF, (-1, 2))))
        self.raises(NotPositive(1), need_positive, Web.line(HALF, 0, (-1, 2)))
        self.raises(NotPositive(1), need_positive, Web.line(HALF, (-1, 2), 0))
        self.raises(BelowZero(2), need_not_below, Web.line(HALF, 0, (-1, 2), (-1, 3)))
        self.raises(BelowZero(0), need_not_below, Web(1, [(0, 0, (-1, 9))]))
        self.raises(Apart(), need_hanging, Web.line(HALF, 0))


if __name__ == "__main__":
    unittest.main()
