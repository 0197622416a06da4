"""leanwebs.sums: point [6], and [11] to [13], which hold of it."""

import unittest
from fractions import Fraction

from leanwebs.errors import BadLot, BadPlace, BadSaying
from leanwebs.lots import even_lots, lots
from leanwebs.pieces import pieces
from leanwebs.sums import chance, count_yes, mean, means, total, weight
from leanwebs.webs import Web
from tests.helper import (HALF, MIXED, NO_INTEGERS, NO_NUMBERS, WEBS, WIDE, Case, MyInt, Numbers, all_sayings,
                          all_subsets, fraction, joined_lots, mean_of, product, ratio, sign_of_lot, total_of, weight_of)


class TestSums(Case):
    def test_example(self):
        web = Web.ring(HALF, HALF, HALF, HALF)
        self.same((total(web), mean(web, (0, 1)), mean(web, [2, 0]), mean(web, (3,), floor=1)),
                  ((17, 1), (10, 17), (8, 17), (8, 17)))
        self.same(weight(web, (1, 1, 1, 1)), (81, 16))
        self.same(weight(web, (1, -1, 1, -1)), (1, 16))
        self.same(weight(web, [1, 1, -1, -1]), (9, 16))

    def test_one_place(self):
        self.same((total(Web(1, [])), chance(Web(1, []), (-1,)), means(Web(1, []))), ((2, 1), (1, 2), [((), (1, 1))]))
        loop = Web(1, [(0, 0, (-1, 3))])
        self.same((weight(loop, (1,)), total(loop), mean(loop, (0,)), mean(loop, (0,), floor=0), count_yes(loop)),
                  ((2, 3), (4, 3), (0, 1), (1, 1), [(1, 2), (1, 2)]))

    def test_weights_and_chances(self):
        for web in MIXED:
            whole = total_of(web)
            self.same(total(web), ratio(whole))
            for saying in all_sayings(web.many):
                self.same(weight(web, list(saying)), ratio(weight_of(web, saying)))
                self.same(chance(web, saying), ratio(weight_of(web, saying) / whole))

    def test_means(self):
        for web in MIXED:
            for lot in all_subsets(range(web.many)):
                self.same(mean(web, lot[::-1]), ratio(mean_of(web, lot)))
            self.same(means(web), [(lot, mean(web, lot)) for lot in even_lots(web.many)])

    def test_floor(self):
        for web in WEBS:
            for lot in all_subsets(range(web.many)):
                for floor in range(web.many):
                    wanted = joined_lots(lot, (floor,)) if len(lot) % 2 else lot
                    self.same(mean(web, lot, floor=floor), mean(web, wanted))
                self.same(mean(web, list(lot), floor=None), mean(web, lot))
        self.same(mean(WEBS[6], (1,), floor=MyInt(0)), (2, 3))

    def test_floor_is_the_mean_given_that_it_says_yes(self):
        web = WEBS[7]
        for lot in all_subsets(range(4)):
            told = [saying for saying in all_sayings(4) if saying[2] == 1]
            top = sum(fraction(weight(web, saying)) * sign_of_lot(saying, lot) for saying in told)
            self.same(mean(web, lot, floor=2), ratio(top / sum(fraction(weight(web, saying)) for saying in told)))

    def test_count_yes(self):
        self.same(count_yes(Web(2, [(0, 1, HALF)])), [(3, 8), (1, 4), (3, 8)])
        for web in MIXED:
            wanted = [Fraction(0)] * (web.many + 1)
            for saying in all_sayings(web.many):
                wanted[saying.count(1)] += weight_of(web, saying) / total_of(web)
            self.same(count_yes(web), [ratio(number) for number in wanted])

    def test_wide(self):
        self.same(total(WIDE), ratio(total_of(WIDE)))
        told = means(WIDE)
        self.assertEqual([lot for lot, _ in told], even_lots(10))
        self.same(told[1], ((0, 1), ratio(mean_of(WIDE, (0, 1)))))
        self.same(mean(WIDE, tuple(range(10))), told[-1][1])
        self.assertEqual(sum(fraction(one) for one in count_yes(WIDE)), 1)

    def test_wrong(self):
        web = WEBS[6]
        for saying in (None, "111", (1, 1), (1, 1, 1, 1), (1, 1, 0), (True, 1, 1), (1.0, 1, 1), ((1, 1, 1),)):
            self.raises(BadSaying(), weight, web, saying)
            self.raises(BadSaying(), chance, web, saying)
        for lot in NO_NUMBERS + ((3,), (0, 3)):
            self.raises(BadLot(), mean, web, lot)
            self.raises(BadLot(), mean, web, lot, floor=9)
        for floor in [one for one in NO_INTEGERS if one is not None] + [-1, 3]:
            self.raises(BadPlace(), mean, web, (0, 1), floor=floor)
            self.raises(BadPlace(), mean, web, (0,), floor=floor)
        with self.assertRaises(TypeError):
            mean(web, (0,), 0)

    def test_lists_are_new(self):
        for call in (means, count_yes):
            call(WEBS[6]).clear()
            self.assertTrue(call(WEBS[6]))


class TestWhatHolds(Case):
    def test_chances(self):
        for web in MIXED:
            told = all_sayings(web.many)
            self.assertGreater(fraction(total(web)), 0)
            self.assertEqual(sum(fraction(chance(web, saying)) for saying in told), 1)
            found = dict(means(web))
            for saying in told:
                self.assertGreater(fraction(chance(web, saying)), 0)
                self.same(chance(web, saying), chance(web, tuple(-one for one in saying)))
                top = sum(fraction(found[lot]) * sign_of_lot(saying, lot) for lot in found)
                self.same(chance(web, saying), ratio(top / 2 ** web.many))

    def test_zero_means(self):
        for web in MIXED:
            below = any(tie[2][0] < 0 for tie in web.ties)
            for lot in lots(web.many):
                if any(len(set(piece) & set(lot)) % 2 for piece in pieces(web)):
                    self.same(mean(web, lot), (0, 1))
                elif not below:
                    self.assertGreater(fraction(mean(web, lot)), 0)

    def test_beside(self):
        for one in WEBS[1:8]:
            for other in WEBS[1:8]:
                both = one + other
                self.same(total(both), ratio(fraction(total(one)) * fraction(total(other))))
                moved = [tuple(place + one.many for place in lot) for lot in lots(other.many)]
                for lot in lots(one.many)[-4:]:
                    for part, away in list(zip(lots(other.many), moved))[-4:]:
                        wanted = fraction(mean(one, lot)) * fraction(mean(other, part))
                        self.same(mean(both, lot + away), ratio(wanted))

    def test_one_shared_place(self):
        one, other = WEBS[7], WEBS[6].with_pull(0, (-1, 5))
        blocks = ((0,), (1,), (2,), (3, 4), (5,), (6,))
        both = (one + other).glued(blocks)
        self.same(total(both), ratio(fraction(total(one)) * fraction(total(other)) / 2))
        for lot in even_lots(4):
            for part in even_lots(3):
                wanted = fraction(mean(one, lot)) * fraction(mean(other, part))
                self.same(mean(both, joined_lots(lot, tuple(p + 3 for p in part))), ratio(wanted))

    def test_two_shared_places(self):
        one, other = WEBS[7], Web.ring((1, 3), (-1, 4), HALF, (2, 5)).with_tie(0, 2, (1, 7))
        both = (one + other).glued(((0, 4), (1,), (2, 6), (3,), (5,), (7,)))
        place = {0: 0, 1: 4, 2: 2, 3: 5}
        m, n = fraction(mean(one, (0, 2))), fraction(mean(other, (0, 2)))
        self.same(total(both), ratio(fraction(total(one)) * fraction(total(other)) * (1 + m * n) / 4))
        for lot in even_lots(4):
            for part in even_lots(4):
                a, b = fraction(mean(one, lot)), fraction(mean(one, joined_lots(lot, (0, 2))))
                c, d = fraction(mean(other, part)), fraction(mean(other, joined_lots(part, (0, 2))))
                moved = tuple(place[p] for p in part)
                self.same(mean(both, joined_lots(lot, moved)), ratio((a * c + b * d) / (1 + m * n)))

    def test_turning(self):
        for web in MIXED:
            for places in lots(web.many):
                turned = web.turned(places)
                self.same(total(turned), total(web))
                for lot in even_lots(web.many):
                    sign = -1 if len(set(lot) & set(places)) % 2 else 1
                    self.same(mean(turned, lot), ratio(sign * fraction(mean(web, lot))))

    def test_the_same_up_to_turning(self):
        rings = [(0, 1, 2), (2, 3, 4), (0, 1, 3, 4)]
        web = Web(4, [(0, 1, HALF), (1, 2, (1, 3)), (0, 2, (1, 4)), (2, 3, (1, 5)), (3, 0, (1, 6))])
        all_turned = [web.turned(lot) for lot in lots(4)]
        for bundle in all_subsets(range(5)):
            other = web.contrary(bundle)
            like = all(product(-1 if k in bundle else 1 for k in ring) == 1 for ring in rings)
            self.assertEqual(any(other == one for one in all_turned), like)
            told = [all(fraction(mean(other, lot)) == sign_of_lot(saying, lot) * fraction(mean(web, lot))
                        for lot in even_lots(4)) for saying in all_sayings(4)]
            self.assertEqual(any(told), like)

    def test_equal_arguments_give_equal_answers(self):
        for seed in range(3):
            one, other = Numbers(seed).web(4, 6), Numbers(seed).web(4, 6)
            self.assertEqual((means(one), count_yes(one)), (means(other), count_yes(other)))


if __name__ == "__main__":
    unittest.main()
