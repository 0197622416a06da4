"""leanwebs.bundles: points [7] and [17]."""

import unittest

from leanwebs.bundles import bundle_of, bundle_sum, bundles_with, is_ringless, odd_ends, product_of
from leanwebs.errors import BadBundle, BadLot, TooMany
from leanwebs.lots import even_lots, lots
from leanwebs.sums import mean, total
from leanwebs.webs import Web
from tests.helper import (HALF, MIXED, NO_NUMBERS, WIDE, Case, MyInt, MyTuple, all_subsets, clusters_of, fraction,
                          is_even_in, odd_ends_of, product, pulls_of, ratio)

WEB = Web(4, [(0, 1, HALF), (1, 0, (-1, 3)), (2, 2, (1, 5)), (2, 3, 0), (1, 2, (-2, 7))])
NINE = Web(6, [(k % 6, (k + 1 + k // 6) % 6, (k - 4, 7)) for k in range(9)])


def rings_of(web):
    """All bundles that are a ring: each place of the bundle has two ends, and the bundle hangs together."""
    found = []
    for bundle in all_subsets(range(len(web.ties)))[1:]:
        ends = [end for k in bundle for end in web.ties[k][:2]]
        parts = [part for part in clusters_of(web, bundle) if set(part) & set(ends)]
        if all(ends.count(end) == 2 for end in ends) and len(parts) == 1:
            found.append(bundle)
    return found


class TestBundles(Case):
    def test_bundle_of(self):
        self.same(bundle_of(WEB, [3, 0]), (0, 3))
        self.same(bundle_of(WEB, ()), ())
        self.same(bundle_of(WEB, MyTuple([MyInt(4), MyInt(1)])), (1, 4))
        self.same(bundle_of(Web(1, []), []), ())

    def test_odd_ends(self):
        self.same(odd_ends(WEB, [0]), (0, 1))
        self.same(odd_ends(WEB, (0, 1)), ())
        self.same(odd_ends(WEB, (2,)), ())
        self.same(odd_ends(WEB, [4, 2, 0]), (0, 2))
        self.same(odd_ends(WEB, (0, 3)), (0, 1, 2, 3))
        for web in MIXED + (NINE,):
            for bundle in all_subsets(range(len(web.ties))):
                self.same(odd_ends(web, bundle[::-1]), odd_ends_of(web, bundle))

    def test_product_of(self):
        self.same(product_of(WEB, ()), (1, 1))
        self.same(product_of(WEB, [1, 0]), (-1, 6))
        self.same(product_of(WEB, (0, 3)), (0, 1))
        for web in MIXED:
            for bundle in all_subsets(range(len(web.ties))):
                self.same(product_of(web, bundle), ratio(product(pulls_of(web)[k] for k in bundle)))

    def test_is_ringless(self):
        told = [is_ringless(WEB, bundle) for bundle in ((), (0,), (0, 1), (2,), [4, 3, 1], (0, 2), (0, 1, 4))]
        self.same(told, [True, True, False, False, True, False, False])
        for web in MIXED:
            rings = rings_of(web)
            for bundle in all_subsets(range(len(web.ties))):
                self.same(is_ringless(web, bundle), not any(set(ring) <= set(bundle) for ring in rings))

    def test_bundles_with(self):
        self.same(bundles_with(WEB, ()), [(), (2,), (0, 1), (0, 1, 2)])
        self.same(bundles_with(WEB, [3, 2]), [(3,), (2, 3), (0, 1, 3), (0, 1, 2, 3)])
        self.same(bundles_with(WEB, (0,)), [])
        self.same(bundles_with(Web(2, []), (0, 1)), [])
        self.same(bundle_sum(WEB, (0,)), (0, 1))
        self.same(bundle_sum(Web(2, []), (0, 1)), (0, 1))
        self.same(bundle_sum(Web(2, []), ()), (1, 1))
        for web in MIXED + (NINE,):
            told = all_subsets(range(len(web.ties)))
            ends = {bundle: odd_ends_of(web, bundle) for bundle in told}
            for lot in lots(web.many):
                wanted = [bundle for bundle in told if ends[bundle] == lot]
                self.same(bundles_with(web, lot[::-1]), wanted)
                found = sum(product(pulls_of(web)[k] for k in bundle) for bundle in wanted)
                self.same(bundle_sum(web, lot), ratio(found))

    def test_means_by_bundles(self):
        for web in MIXED + (NINE,):
            for lot in lots(web.many):
                top = fraction(total(web)) * fraction(mean(web, lot))
                self.same(bundle_sum(web, lot), ratio(top / 2 ** web.many))

    def test_how_many_bundles(self):
        for web in MIXED:
            for bundle in all_subsets(range(len(web.ties))):
                parts = clusters_of(web, bundle)
                for lot in even_lots(web.many):
                    found = [one for one in bundles_with(web, lot) if set(one) <= set(bundle)]
                    wanted = 2 ** (len(bundle) - web.many + len(parts)) if is_even_in(lot, parts) else 0
                    self.assertEqual(len(found), wanted)

    def test_wrong(self):
        calls = (bundle_of, odd_ends, product_of, is_ringless)
        for call in calls + (bundles_with, bundle_sum):
            self.raises(TooMany(10, 9), call, WIDE, None)
            self.raises(TooMany(10, 9), call, WIDE, ())
        for bundle in NO_NUMBERS + ((5,), (0, 5)):
            for call in calls:
                self.raises(BadBundle(), call, WEB, bundle)
        for lot in NO_NUMBERS + ((4,), (0, 4)):
            self.raises(BadLot(), bundles_with, WEB, lot)
            self.raises(BadLot(), bundle_sum, WEB, lot)

    def test_nine_ties(self):
        self.assertEqual(bundle_of(NINE, [8, 0]), (0, 8))
        self.assertEqual(sum(len(bundles_with(NINE, lot)) for lot in even_lots(6)), 512)


if __name__ == "__main__":
    unittest.main()
