"""leanwebs.doubled: points [16] and [21]."""

import unittest
from fractions import Fraction

from leanwebs.doubled import doubled_weight, weights_seen
from leanwebs.errors import BadBundle, BadLot, BelowZero, OddLot, TooMany
from leanwebs.lots import even_lots, lots
from leanwebs.sums import mean
from leanwebs.webs import Web
from tests.helper import (HALF, NO_NUMBERS, NOT_BELOW, Case, all_partings, all_subsets, clusters_of, fraction,
                          is_even_in, joined_lots, odd_ends_of, product, pulls_of, ratio, total_of)

LINE = Web.line(HALF, 0, (1, 3))
NINE = Web(6, [(k % 6, (k + 1 + k // 6) % 6, (k + 1, 2 * k + 5)) for k in range(9)])
LOOPS = Web(1, [(0, 0, (k, 10)) for k in range(1, 10)])


def weight_told(web, lot, bundle):
    """V_A(c) as point [16] tells it."""
    pulls = pulls_of(web)
    found = product(1 - t * t for k, t in enumerate(pulls) if k not in bundle) * 2 ** len(clusters_of(web, bundle))
    inner = [product(2 * pulls[k] if k in part else 2 * pulls[k] ** 2 for k in bundle)
             for part in all_subsets(bundle) if odd_ends_of(web, part) == lot]
    return found * sum(inner, Fraction(0))


def seen_told(web, lot, watched):
    """The weights seen as point [16] tells them."""
    found = {}
    for bundle in all_subsets(range(len(web.ties))):
        blocks = [tuple(p for p in block if p in watched) for block in clusters_of(web, bundle)]
        parting = tuple(sorted(block for block in blocks if block))
        found[parting] = found.get(parting, 0) + weight_told(web, lot, bundle)
    scale = Fraction(2 ** web.many) / total_of(web) ** 2
    return [(parting, ratio(found[parting] * scale)) for parting in sorted(found) if found[parting]]


class TestDoubled(Case):
    def test_example(self):
        one = Web.line((1, 3))
        self.same(weights_seen(one, (), (0, 1)), [(((0,), (1,)), (8, 9)), (((0, 1),), (1, 9))])
        self.same([doubled_weight(one, (), bundle) for bundle in ((), [0])], [(32, 9), (4, 9)])
        self.same([doubled_weight(one, [1, 0], bundle) for bundle in ((), [0])], [(0, 1), (4, 3)])

    def test_doubled_weight(self):
        for web in NOT_BELOW:
            for lot in even_lots(web.many):
                for bundle in all_subsets(range(len(web.ties))):
                    self.same(doubled_weight(web, lot[::-1], bundle[::-1]), ratio(weight_told(web, lot, bundle)))

    def test_above_zero(self):
        for web in NOT_BELOW:
            if all(t for t in pulls_of(web)):
                for lot in even_lots(web.many):
                    for bundle in all_subsets(range(len(web.ties))):
                        above = doubled_weight(web, lot, bundle)[0] > 0
                        self.assertEqual(above, is_even_in(lot, clusters_of(web, bundle)))

    def test_weights_seen(self):
        for web in NOT_BELOW:
            for lot in even_lots(web.many):
                for watched in lots(web.many):
                    self.same(weights_seen(web, list(lot), watched[::-1]), seen_told(web, lot, watched))

    def test_no_watched_places(self):
        self.same(weights_seen(LINE, (0, 1), []), [((), (1, 2))])
        self.same(weights_seen(LINE, (), ()), [((), (1, 1))])
        self.same(weights_seen(LINE, (0, 2), ()), [])
        self.same(weights_seen(LINE, (0, 2), (0, 1, 2, 3)), [])

    def test_order_of_blocks(self):
        # The block of place 1 and 2 comes first in the clusters, but behind that of place 0 at the watched ones.
        web = Web(4, [(0, 3, HALF), (1, 2, HALF)])
        self.same([row[0] for row in weights_seen(web, (), (2, 3))], [((2,), (3,))])
        self.same([row[0] for row in weights_seen(web, (), (1, 2, 3))], [((1,), (2,), (3,)), ((1, 2), (3,))])

    def test_products_of_means(self):
        for web in NOT_BELOW + (NINE,):
            places = tuple(range(web.many))
            for lot in even_lots(web.many)[:12]:
                told = weights_seen(web, lot, places)
                self.assertEqual(sum(fraction(part) for _, part in told), fraction(mean(web, lot)))
                for other in lots(web.many)[:24]:
                    found = sum(fraction(part) for parting, part in told if is_even_in(other, parting))
                    wanted = fraction(mean(web, other)) * fraction(mean(web, joined_lots(lot, other)))
                    self.assertEqual(found, wanted)
                square = sum(fraction(part) for parting, part in weights_seen(web, (), places)
                             if is_even_in(lot, parting))
                self.assertEqual(square, fraction(mean(web, lot)) ** 2)

    def test_partings_in_order(self):
        found = [parting for parting, _ in weights_seen(NINE, (), tuple(range(6)))]
        self.assertEqual(found, [parting for parting in all_partings(range(6)) if parting in found])
        self.assertGreater(len(found), 20)

    def test_beside(self):
        one, other = Web.ring(HALF, (1, 3)), Web.ring((1, 4), HALF, (1, 5))
        for lot in even_lots(2):
            for part in even_lots(3):
                found = dict(weights_seen(one + other, lot + tuple(p + 2 for p in part), (0, 1, 2, 3, 4)))
                wanted = {}
                for left, x in weights_seen(one, lot, (0, 1)):
                    for right, y in weights_seen(other, part, (0, 1, 2)):
                        moved = tuple(tuple(p + 2 for p in block) for block in right)
                        wanted[left + moved] = ratio(fraction(x) * fraction(y))
                self.assertEqual(found, wanted)

    def test_loops(self):
        self.same(weights_seen(LOOPS, (), (0,)), [(((0,),), (1, 1))])
        self.same(doubled_weight(LOOPS, (), tuple(range(9))), ratio(weight_told(LOOPS, (), tuple(range(9)))))


class TestWrong(Case):
    def test_web_first(self):
        for call in (doubled_weight, weights_seen):
            self.raises(TooMany(7, 6), call, Web(7, [(0, 0, (-1, 2))] * 10), None, None)
            self.raises(TooMany(10, 9), call, Web(6, [(0, 0, (-1, 2))] * 10), None, None)
            self.raises(BelowZero(2), call, Web.line(HALF, 0, (-1, 2)), None, None)

    def test_lots(self):
        for call in (doubled_weight, weights_seen):
            for lot in NO_NUMBERS + ((4,), (0, 4)):
                self.raises(BadLot(), call, LINE, lot, None)
            for lot in ((0,), [2, 1, 0]):
                self.raises(OddLot(), call, LINE, lot, None)

    def test_last(self):
        for wrong in NO_NUMBERS + ((4,), (0, 4)):
            self.raises(BadBundle(), doubled_weight, LINE, (0, 1), wrong)
            self.raises(BadLot(), weights_seen, LINE, (0, 1), wrong)
        self.raises(BadBundle(), doubled_weight, LINE, (), (3,))

    def test_lists_are_new(self):
        weights_seen(LINE, (), ()).clear()
        self.assertTrue(weights_seen(LINE, (), ()))


if __name__ == "__main__":
    unittest.main()
