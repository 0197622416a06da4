"""leanwebs.blockweights: points [77] and [78]."""

import itertools
import unittest

from leanwebs.blockweights import block_weights, hosts, product_from
from leanwebs.doubled import weights_seen
from leanwebs.errors import BadLot, BadParting, BelowZero, OddLot, TooMany
from leanwebs.fours import four_of
from leanwebs.lots import lots
from leanwebs.webs import Web
from tests.helper import (HALF, LEAN, MIXED, NO_LISTS, NO_NUMBERS, NOT_BELOW, Case, MyInt, MyList, all_even, all_partings,
                          all_subsets, fours_of, fraction, hangs_told, is_even_in, joined_lots, means_told, ratio)

RING = Web.ring(HALF, HALF, HALF, HALF)
LARGE = (Web(7, [(0, 0, (-1, 2))] * 10), 7, 6), (Web(6, [(0, 0, (-1, 2))] * 10), 10, 9)


def has_hosts(web, parting):
    """Whether there are hosts, by giving each other place to a block or to none."""
    places = [place for place in range(web.many) if not any(place in block for block in parting)]
    for given in itertools.product(range(-1, len(parting)), repeat=len(places)):
        found = [list(block) + [p for p, at in zip(places, given) if at == k] for k, block in enumerate(parting)]
        if all(hangs_told(web, host) for host in found):
            return True
    return False


class TestWeights(Case):
    def test_example(self):
        self.same(block_weights(RING, (0, 1, 2, 3)),
                  [(((0, 1), (2, 3)), (36, 289)), (((0, 1, 2, 3),), (64, 289)), (((0, 3), (1, 2)), (36, 289))])

    def test_weights(self):
        for web in NOT_BELOW + LEAN[:-2]:
            told = means_told(web)
            for lot in all_even(web.many):
                found = block_weights(web, lot[::-1])
                self.same(found, weights_seen(web, lot, lot))
                self.assertEqual(sum(fraction(weight) for _, weight in found), told[lot])
                known = [parting for parting, _ in found]
                self.assertEqual(known, [one for one in all_partings(lot) if one in known])
                for parting in all_partings(lot):
                    above = is_even_in(lot, parting) and has_hosts(web, parting)
                    self.assertEqual(parting in known, above)
                for part in all_even(web.many):
                    if set(part) <= set(lot):
                        wanted = told[part] * told[joined_lots(lot, part)]
                        self.same(product_from(web, list(lot), part[::-1]), ratio(wanted))

    def test_six_places(self):
        for web in LEAN[-2:]:
            told = means_told(web)
            for lot in ((0, 1, 2, 3, 4, 5), (1, 2, 4, 5)):
                found = block_weights(web, list(lot))
                self.assertEqual(sum(fraction(weight) for _, weight in found), told[lot])
                for parting in all_partings(lot):
                    above = is_even_in(lot, parting) and has_hosts(web, parting)
                    self.assertEqual(parting in [one for one, _ in found], above)

    def test_fours(self):
        for web in LEAN:
            for a, b, c, d in fours_of(web.many):
                found, four = dict(block_weights(web, (a, b, c, d))), four_of(web, (a, b, c, d))
                rows = ((((a, b), (c, d)), four.links[0]), (((a, c), (b, d)), four.links[1]),
                        (((a, d), (b, c)), four.links[2]), (((a, b, c, d),), four.knot))
                for parting, number in rows:
                    self.same(found.get(parting, (0, 1)), number)

    def test_edges(self):
        self.same(block_weights(RING, []), [((), (1, 1))])
        self.same(product_from(RING, (), []), (1, 1))
        self.same(block_weights(Web(3, [(0, 1, HALF)]), (1, 2)), [])
        self.same(product_from(Web(3, [(0, 1, HALF)]), (1, 2), ()), (0, 1))
        self.same(block_weights(Web(2, [(0, 1, 0)]), (0, 1)), [])
        block_weights(RING, (0, 1)).clear()
        self.same(len(block_weights(RING, (0, 1))), 1)

    def test_wrong(self):
        for call, more in ((block_weights, ()), (product_from, (None,))):
            for web, many, most in LARGE:
                self.raises(TooMany(many, most), call, web, None, *more)
            self.raises(BelowZero(1), call, Web.line(0, (-1, 2), (-1, 3)), None, *more)
            for lot in NO_NUMBERS + ((4,), (0, 4)):
                self.raises(BadLot(), call, RING, lot, *more)
            for lot in ((0,), [2, 1, 0]):
                self.raises(OddLot(), call, RING, lot, *more)

    def test_wrong_part(self):
        for part in NO_NUMBERS + ((4,), (0, 3), (3,), [0, 1, 2, 3]):
            self.raises(BadLot(), product_from, RING, (1, 0), part)
        for part in ((0,), [1]):
            self.raises(OddLot(), product_from, RING, (1, 0), part)


class TestHosts(Case):
    def check(self, web, parting):
        found = hosts(web, parting)
        blocks = sorted(tuple(sorted(block)) for block in parting)
        if not has_hosts(web, blocks):
            self.assertIsNone(found)
            return
        self.plain(found)
        self.assertEqual(len(found), len(blocks))
        for block, host in zip(blocks, found):
            self.assertEqual(host, tuple(sorted(set(host))))
            self.assertTrue(set(block) <= set(host))
            self.assertTrue(hangs_told(web, host))
        for one, other in itertools.combinations(found, 2):
            self.assertFalse(set(one) & set(other))

    def test_hosts(self):
        for web in MIXED + LEAN[:16]:
            for lot in lots(web.many):
                for parting in all_partings(lot):
                    self.check(web, [list(block[::-1]) for block in parting[::-1]])

    def test_six_places(self):
        for web in LEAN[-2:]:
            for lot in all_subsets(range(6))[::3]:
                for parting in all_partings(lot)[::2]:
                    self.check(web, parting)

    def test_known(self):
        self.same(hosts(RING, ()), ())
        self.same(hosts(RING, []), ())
        self.same(hosts(RING, MyList([[MyInt(3), 2], (1, 0)])), ((0, 1), (2, 3)))
        self.same(hosts(RING, [(0, 2), (1, 3)]), None)
        self.assertIn(hosts(RING, [(2, 0)]), (((0, 1, 2),), ((0, 2, 3),), ((0, 1, 2, 3),)))
        self.same(hosts(Web.ring(HALF, 0, (-1, 2)), ((2, 1),)), ((0, 1, 2),))
        self.same(hosts(Web(2, []), ((0, 1),)), None)
        self.same(hosts(Web(3, []), [[2], [0]]), ((0,), (2,)))

    def test_pulls(self):
        self.same(hosts(Web(2, [(0, 1, 0)]), ((0, 1),)), None)
        self.same(hosts(Web(2, [(0, 1, (-1, 2))]), ((0, 1),)), ((0, 1),))

    def test_wrong(self):
        for web, many, most in LARGE:
            self.raises(TooMany(many, most), hosts, web, None)
        blocks = tuple(block for block in NO_NUMBERS) + ((), [], (4,), (0, 4), (1, 2), [3, 2, 1])
        for parting in NO_LISTS + tuple([(1,), block] for block in blocks) + tuple((block, (1,)) for block in blocks):
            self.raises(BadParting(), hosts, RING, parting)


if __name__ == "__main__":
    unittest.main()
