"""leanwebs.odds: point [34]."""

import unittest
from fractions import Fraction

from leanwebs.errors import BadLot, BadRatio, OddLot, UnlikeShapes
from leanwebs.lots import even_lots
from leanwebs.odds import factor, odds_moved, tie_factor
from leanwebs.sums import mean
from leanwebs.webs import Web
from tests.helper import HALF, MIXED, NO_NUMBERS, NO_RATIOS, Case, Numbers, fraction, ratio


def odds_told(number):
    return (1 + number) / (1 - number)


def factor_told(one, other):
    x, y = odds_told(fraction(one)), odds_told(fraction(other))
    return max(x / y, y / x)


def others_of(web):
    """Webs of the same shape."""
    numbers = Numbers(len(web) + web.many)
    found = [Web(web.many, [(u, v, numbers.pull(-1)) for u, v, _ in web.ties]) for _ in range(3)]
    return found + [web, -web] + [web.with_pull(k, (3, 5)) for k in range(len(web))]


class TestFactors(Case):
    def test_tie_factor(self):
        self.same(tie_factor(HALF, 0), (3, 1))
        self.same(tie_factor(0, [2, 4]), (3, 1))
        self.same(tie_factor((-1, 2), HALF), (9, 1))
        self.same(tie_factor((-1, 2), [-2, 4]), (1, 1))
        for one in ((0, 1), (1, 2), (-2, 3), (5, 7), (-1, 9)):
            for other in ((0, 1), (1, 2), (-2, 3), (5, 7), (-1, 9)):
                self.same(tie_factor(one, other), ratio(factor_told(one, other)))

    def test_tie_factor_wrong(self):
        for value in NO_RATIOS + (1, -1, (2, 2), (-3, 2), 5):
            self.raises(BadRatio(), tie_factor, value, 0)
            self.raises(BadRatio(), tie_factor, 0, value)

    def test_factor(self):
        self.same(factor(Web(3, []), Web(3, [])), (1, 1))
        self.same(factor(Web.line(HALF, 0), Web.line(0, HALF)), (9, 1))
        self.same(factor(Web(1, [(0, 0, HALF)]), Web(1, [(0, 0, 0)])), (3, 1))
        for web in MIXED:
            for other in others_of(web):
                wanted = Fraction(1)
                for one, two in zip(web.ties, other.ties):
                    wanted *= factor_told(one[2], two[2])
                self.same(factor(web, other), ratio(wanted))

    def test_odds_moved(self):
        self.same(odds_moved(Web.line(HALF), Web.line((-1, 2)), [1, 0]), (9, 1))
        for web in MIXED:
            for other in others_of(web):
                for lot in even_lots(web.many)[1:]:
                    wanted = factor_told(mean(web, lot), mean(other, lot))
                    self.same(odds_moved(web, other, lot[::-1]), ratio(wanted))

    def test_one_pull(self):
        for web in MIXED:
            for number, (u, v, t) in enumerate(web.ties):
                if u != v and t != (3, 5):
                    other = web.with_pull(number, (3, 5))
                    whole = factor(web, other)
                    for lot in even_lots(web.many)[1:]:
                        moved = odds_moved(web, other, lot)
                        self.assertLessEqual(fraction(moved), fraction(whole))
                        self.assertEqual(moved == whole, lot == (min(u, v), max(u, v)))

    def test_bound(self):
        for web in MIXED:
            for other in others_of(web):
                whole = factor(web, other)
                for lot in even_lots(web.many)[1:]:
                    moved = odds_moved(web, other, lot)
                    self.assertLessEqual(fraction(moved), fraction(whole))
                    if whole != (1, 1):
                        unlike = [k for k in range(len(web)) if web.pull(k) != other.pull(k)]
                        signs = {fraction(web.pull(k)) > fraction(other.pull(k)) for k in unlike}
                        fits = all(sorted(web.ends(k)) == list(lot) for k in unlike) and len(signs) == 1
                        self.assertEqual(moved == whole, fits)

    def test_wrong(self):
        web = Web.line(HALF, HALF)
        for other in (Web.line(HALF), Web(4, web.ties), Web(3, [(1, 0, HALF), (1, 2, HALF)]), Web.star(HALF, HALF)):
            self.raises(UnlikeShapes(), factor, web, other)
            self.raises(UnlikeShapes(), odds_moved, web, other, None)
        for lot in NO_NUMBERS + ((), [], (3,), (0, 3)):
            self.raises(BadLot(), odds_moved, web, web, lot)
        for lot in ((0,), [2, 1, 0]):
            self.raises(OddLot(), odds_moved, web, web, lot)


if __name__ == "__main__":
    unittest.main()
