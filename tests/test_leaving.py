"""leanwebs.leaving: points [46] to [48]."""

import itertools
import unittest
from fractions import Fraction

from leanwebs.errors import BadLot, BadPlace, BadRatio, BadRow, TooMany
from leanwebs.leaving import always_webs, arms, gap, left_web, spoiling_pulls, touched
from leanwebs.lots import lots
from leanwebs.spreads import Spread, is_webs
from leanwebs.webs import Web
from tests.helper import (HALF, LEAN, MIXED, NO_LISTS, NO_NUMBERS, NO_RATIOS, WIDE, Case, MyInt, Numbers, fraction,
                          hangs_told, no_places, parts_of, product, ratio)

RATIOS = (HALF, (-1, 2), (1, 3), (2, 3), (0, 1), (-3, 4))


def arms_told(web, place):
    pulls = {}
    for u, v, t in web.ties:
        if u != v and place in (u, v):
            other = u + v - place
            old, new = pulls.get(other, Fraction(0)), fraction(t)
            pulls[other] = (old + new) / (1 + old * new)
    return tuple((other, ratio(t)) for other, t in sorted(pulls.items()) if t)


class TestArms(Case):
    def test_arms(self):
        for web in MIXED + LEAN + (WIDE,):
            for place in range(web.many):
                self.same(arms(web, place), arms_told(web, place))

    def test_known(self):
        web = Web(4, [(2, 1, HALF), (1, 1, HALF), (1, 0, (1, 3)), (0, 1, (-1, 3)), (3, 1, 0), (1, 2, [1, 2]), (2, 3, HALF)])
        self.same(arms(web, MyInt(1)), ((2, (4, 5)),))
        self.same(arms(web, 0), ())
        self.same(arms(web, 2), ((1, (4, 5)), (3, (1, 2))))
        self.same(arms(Web(1, [(0, 0, HALF)]), 0), ())

    def test_wrong(self):
        for place in no_places(3):
            self.raises(BadPlace(), arms, Web.line(HALF, HALF), place)


class TestLeftWeb(Case):
    def test_spreads(self):
        seen = []
        for web in MIXED + LEAN:
            if web.many > 1:
                for place in range(web.many):
                    found = len(arms_told(web, place))
                    seen.append(min(found, 3))
                    rest = Spread.of(web).left_out((place,))
                    if found < 3:
                        self.assertEqual(Spread.of(left_web(web, place)), rest)
                    else:
                        self.raises(TooMany(found, 2), left_web, web, place)
                    self.assertEqual(is_webs(rest), found < 4)
        self.assertEqual(set(seen), {0, 1, 2, 3})

    def test_ties(self):
        web = Web(5, [(4, 3, HALF), (2, 4, (1, 3)), (0, 0, (1, 5)), (2, 0, (1, 4)), (2, 2, HALF), (0, 4, 0), (3, 1, HALF)])
        self.same(left_web(web, MyInt(2)).ties, ((3, 2, (1, 2)), (0, 0, (1, 5)), (0, 3, (0, 1)), (2, 1, (1, 2)), (0, 3, (1, 12))))
        self.same(left_web(web, 2).many, 4)
        self.same(left_web(web, 1).ties, tuple((u - (u > 1), v - (v > 1), t) for u, v, t in web.ties[:6]))
        self.same(left_web(web, 0).ties, ((3, 2, (1, 2)), (1, 3, (1, 3)), (1, 1, (1, 2)), (2, 0, (1, 2))))
        self.same(left_web(Web(2, [(0, 1, HALF)]), 0).shape, (1, ()))

    def test_merged_arms(self):
        # Two ties between the same places are one arm, or none if they take each other away.
        web = Web(4, [(0, 1, HALF), (1, 0, HALF), (2, 0, (1, 3)), (0, 3, (1, 4)), (3, 0, (-1, 4))])
        self.same(left_web(web, 0).ties, ((0, 1, (4, 15)),))

    def test_ten_ties(self):
        web = Web(3, [(0, 1, HALF), (0, 2, HALF)] + [(1, 2, (1, 9))] * 8)
        self.same(len(left_web(web, 0)), 9)
        self.assertEqual(Spread.of(web).left_out((0,)), Spread.of(left_web(web, 0)))

    def test_wrong(self):
        for place in no_places(3):
            self.raises(BadPlace(), left_web, Web.line(HALF, HALF), place)
        for place in (0, 1, None):
            self.raises(BadPlace(), left_web, Web(1, [(0, 0, HALF)]), place)
        for many in (3, 4, 9):
            self.raises(TooMany(many, 2), left_web, Web.star(*[HALF] * many), 0)


class TestGap(Case):
    def test_example(self):
        self.same(gap([HALF] * 4), ((29889, 65536), (50625, 65536)))

    def test_gap(self):
        for pulls in itertools.product(RATIOS, repeat=4):
            numbers = [fraction(pull) for pull in pulls]
            parts = {1: Fraction(1), -1: Fraction(1)}
            for rest in itertools.product((1, -1), repeat=3):
                signed = [t * s for t, s in zip(numbers, (1,) + rest)]
                told = 1 + sum(x * y for x, y in itertools.combinations(signed, 2)) + product(signed)
                parts[rest[0] * rest[1] * rest[2]] *= told
            even, odd = gap(list(pulls))
            self.same((even, odd), (ratio(parts[1]), ratio(parts[-1])))
            self.assertEqual(fraction(even) - fraction(odd), -16 * product(t * (1 - t * t) for t in numbers))

    def test_kinds(self):
        self.same(gap((0, [2, 4], (3, 9), MyInt(0))), gap([(0, 1), HALF, (1, 3), (0, 7)]))

    def test_wrong(self):
        for pulls in NO_LISTS + ((), (0, 0, 0), [0] * 5, [None] * 3):
            self.raises(BadRow(), gap, pulls)
        for value in NO_RATIOS + (1, -1, (2, 2), (-5, 4), 3):
            for at in range(4):
                self.raises(BadRatio(), gap, [0] * at + [value] + [0] * (3 - at))


def touched_told(web, lot):
    pairs = [(u, v) for u, v, _ in web.ties if u in lot and v in lot]
    found = []
    for piece in parts_of(lot, pairs):
        met = {place for u, v, _ in web.ties for place in (u, v) if {u, v} & set(piece)} - set(piece)
        found.append((piece, tuple(sorted(met))))
    return tuple(found)


class TestTouched(Case):
    def test_touched(self):
        for web in MIXED + LEAN:
            for lot in lots(web.many):
                found = touched_told(web, lot)
                self.same(touched(web, lot[::-1]), found)
                self.same(always_webs(web, list(lot)), all(len(met) <= 3 for _, met in found))
                for piece, met in found:
                    self.assertTrue(hangs_told(web, piece, True))
                    self.assertFalse(set(met) & set(lot))

    def test_known(self):
        line = Web.line(HALF, 0)
        self.same(touched(line, (0, 2)), (((0,), (1,)), ((2,), (1,))))
        self.same(touched(line, [2, 1]), (((1, 2), (0,)),))
        self.same(touched(line, (2, 1, 0)), (((0, 1, 2), ()),))
        self.same(touched(line, ()), ())
        self.same(touched(Web(10, []), (9, 3)), (((3,), ()), ((9,), ())))
        self.same((always_webs(line, ()), always_webs(line, (0, 1, 2))), (True, True))

    def test_three_and_four(self):
        star = Web.star(0, 0, 0, 0)
        self.same([always_webs(star, lot) for lot in ((0,), [0, 4], (1, 2, 3, 4), (0, 1, 2, 3, 4))],
                  [False, True, True, True])
        self.same(always_webs(Web.star(HALF, HALF, HALF), [0]), True)

    def test_wrong(self):
        for lot in NO_NUMBERS + ((3,), (0, 3)):
            for call in (touched, always_webs, spoiling_pulls):
                self.raises(BadLot(), call, Web.line(HALF, HALF), lot)


class TestSpoiling(Case):
    def check(self, web, lot):
        found = spoiling_pulls(web, lot)
        if all(len(met) <= 3 for _, met in touched_told(web, lot)):
            self.assertIsNone(found)
            return False
        self.assertIs(type(found), Web)
        self.assertEqual(found.shape, web.shape)
        self.assertTrue(found.positive)
        for _, _, (p, q) in found.ties:
            self.assertLess(max(abs(p), q), 10 ** 30)
        self.assertFalse(is_webs(Spread.of(found).left_out(lot)))
        return True

    def test_samples(self):
        for web in MIXED + LEAN:
            for lot in lots(web.many)[:-1]:
                self.check(web, lot)

    def test_shapes(self):
        spoiled = 0
        for seed in range(60):
            web = Numbers(seed).web(6 + seed % 2, 7 + seed % 4)
            for lot in lots(web.many)[:40:3]:
                spoiled += self.check(web, lot)
        self.assertGreater(spoiled, 20)

    def test_long_pieces(self):
        # Two hubs, three hubs in a row, a ring of three in the middle, five and six places around, a piece elsewhere.
        self.assertTrue(self.check(Web(6, [(0, 1, 0), (0, 2, 0), (0, 3, 0), (1, 4, 0), (1, 5, 0)]), (0, 1)))
        self.assertTrue(self.check(Web(7, [(0, 1, 0), (1, 2, 0), (0, 3, 0), (0, 4, 0), (2, 5, 0), (2, 6, 0)]), [2, 1, 0]))
        self.assertTrue(self.check(Web(7, [(0, 1, 0), (1, 2, 0), (2, 0, 0), (0, 3, 0), (1, 4, 0), (2, 5, 0), (0, 6, 0),
                                           (0, 6, 0), (3, 4, 0), (1, 1, 0)]), (0, 1, 2)))
        self.assertTrue(self.check(Web.star(*[0] * 6), (0,)))
        self.assertTrue(self.check(Web(6, [(1, 0, 0), (1, 2, 0), (1, 3, 0), (4, 1, 0), (5, 1, 0), (0, 2, 0)]), (1,)))
        self.assertTrue(self.check(Web(7, [(0, 1, 0), (1, 2, 0), (6, 2, 0), (6, 3, 0), (6, 4, 0), (6, 5, 0), (3, 4, 0)]),
                                   (0, 6)))

    def test_always(self):
        for web in (Web.line(HALF, (1, 3), (-1, 4)), Web.star(HALF, (-1, 3), (2, 5))):
            for lot in lots(4)[:-1]:
                self.assertIsNone(spoiling_pulls(web, lot))
                self.assertTrue(is_webs(Spread.of(web).left_out(lot)))

    def test_wrong(self):
        self.raises(TooMany(8, 7), spoiling_pulls, Web(8, []), None)
        for lot in ((0, 1, 2), [2, 0, 1]):
            self.raises(BadLot(), spoiling_pulls, Web.line(HALF, HALF), lot)


if __name__ == "__main__":
    unittest.main()
