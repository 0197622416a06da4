"""leanwebs.classes: points [69] and [127] to [130]."""

import unittest
from fractions import Fraction

from leanwebs.classes import class_sum, classes, mean_by_twins, same_class, total_by_twins
from leanwebs.errors import BadBundle, BadLot, OddLot, TooMany
from leanwebs.layings import Laying, plain_laying
from leanwebs.sums import mean, total
from leanwebs.twins import contrary_total
from leanwebs.webs import Web
from tests.helper import (HALF, LAID, NO_NUMBERS, Case, MyInt, MyList, all_even, all_subsets, fraction, joined_lots,
                          layings_of, odd_ends_of, product, pulls_of, ratio, ways_told)

THREE = Web(2, [(0, 1, HALF), (0, 1, (1, 3)), (0, 1, (1, 5))])
TORUS = Laying(THREE, [[0, 2, 4], [1, 3, 5]])
SMALL = tuple(web for web in LAID if len(web.ties) <= 6)
TEN = plain_laying(Web(1, [(0, 0, HALF)] * 10))


def cuts_told(laying):
    return {laying.cut(lot) for lot in all_subsets(range(len(laying.faces)))}


class TestClasses(Case):
    def test_same_class(self):
        for web in SMALL:
            for laying in layings_of(web, 2):
                cuts, bundles = cuts_told(laying), all_subsets(range(len(web.ties)))
                for one in bundles[::3]:
                    for other in bundles[::5]:
                        found = same_class(laying, list(one[::-1]), other)
                        self.same(found, joined_lots(one, other) in cuts)
                        if found:
                            self.assertEqual(odd_ends_of(web, one), odd_ends_of(web, other))

    def test_class_sum(self):
        for web in SMALL:
            for laying in layings_of(web, 2):
                pulls, cuts = pulls_of(web), cuts_told(laying)
                scale = Fraction(2) ** (len(web.ties) + 1) / product(1 + t for t in pulls)
                for bundle in all_subsets(range(len(web.ties)))[::3]:
                    rows = {joined_lots(bundle, cut) for cut in cuts}
                    wanted = sum(product(pulls[k] for k in row) for row in rows)
                    self.same(class_sum(laying, list(bundle[::-1])), ratio(wanted))
                    self.same(contrary_total(laying, bundle), ratio(wanted * scale))

    def test_classes(self):
        handles = set()
        for web in LAID:
            for laying in layings_of(web, 3):
                cuts, seen, wanted = cuts_told(laying), set(), []
                even = [row for row in all_subsets(range(len(web.ties))) if not odd_ends_of(web, row)]
                for row in even:
                    if row not in seen:
                        wanted.append(row)
                        seen |= {joined_lots(row, cut) for cut in cuts}
                found = classes(laying)
                self.same(found, wanted)
                self.assertEqual(len(found), 4 ** laying.handles)
                handles.add(laying.handles)
                if laying.plane:
                    self.assertEqual((found, len(even)), ([()], 2 ** (len(laying.faces) - 1)))
        self.assertTrue({0, 1, 2} <= handles)

    def test_known(self):
        self.same(classes(TORUS), [(), (0, 1), (0, 2), (1, 2)])
        self.same((same_class(TORUS, (0,), (1,)), same_class(TORUS, [0], (MyInt(0),))), (False, True))
        self.same((class_sum(TORUS, ()), class_sum(TORUS, (2, 0))), ((1, 1), (1, 10)))
        plane = plain_laying(Web.line(HALF))
        self.same((classes(plane), class_sum(plane, (0,)), same_class(plane, (), (0,))), ([()], HALF, False))
        classes(plane).clear()
        self.same(classes(plane), [()])
        loops = Laying(Web(1, [(0, 0, HALF)] * 8), [[0, 2, 1, 3, 4, 6, 5, 7, 8, 10, 9, 11, 12, 14, 13, 15]])
        self.same((loops.handles, len(classes(loops))), (4, 256))

    def test_wrong(self):
        for bundle in NO_NUMBERS + ((3,), [0, 3]):
            self.raises(BadBundle(), same_class, TORUS, bundle, None)
            self.raises(BadBundle(), same_class, TORUS, (0, 1), bundle)
            self.raises(BadBundle(), class_sum, TORUS, bundle)
        self.raises(TooMany(10, 9), same_class, TEN, None, None)
        self.raises(TooMany(10, 9), class_sum, TEN, None)
        self.raises(TooMany(10, 9), classes, TEN)


class TestByTwins(Case):
    def test_totals(self):
        for web in LAID:
            for laying in layings_of(web, 2):
                self.same(total_by_twins(laying), total(web))

    def test_means(self):
        for web in SMALL:
            for laying in layings_of(web, 2):
                for lot in all_even(web.many):
                    self.same(mean_by_twins(laying, list(lot[::-1])), mean(web, lot))

    def test_any_bundle_will_do(self):
        for web in SMALL[::2]:
            for laying in layings_of(web, 1):
                firsts = classes(laying)
                whole = sum(fraction(contrary_total(laying, one)) for one in firsts)
                for bundle in all_subsets(range(len(web.ties)))[::5]:
                    told = sum(fraction(contrary_total(laying, joined_lots(one, bundle))) for one in firsts)
                    self.same(mean(web, odd_ends_of(web, bundle)), ratio(told / whole))

    def test_plane_ways(self):
        for web in LAID:
            laying, pulls = plain_laying(web), pulls_of(web)
            if laying.plane and web.many > 1:
                whole = fraction(contrary_total(laying, ()))
                told = fraction(mean(web, (0, web.many - 1)))
                rows = [way for way, _ in ways_told(web, 0, web.many - 1)]
                for way in rows:
                    self.assertEqual(fraction(contrary_total(laying, way)) / whole, told)
                self.assertTrue(max(product(pulls[k] for k in way) for way in rows) <= told < 1)

    def test_many_handles(self):
        web = Web(1, [(0, 0, (1, 2 + k)) for k in range(9)])
        laying = Laying(web, [[0, 2, 1, 3, 4, 6, 5, 7, 8, 10, 9, 11, 12, 14, 13, 15, 16, 17]])
        self.same((laying.handles, total_by_twins(laying), mean_by_twins(laying, ())), (4, total(web), (1, 1)))
        web = Web(2, [(0, 1, (1, 2 + k)) for k in range(9)])
        self.same(mean_by_twins(plain_laying(web), [1, 0]), mean(web, (0, 1)))

    def test_known(self):
        self.same((mean_by_twins(TORUS, (0, 1)), mean_by_twins(TORUS, MyList()), total_by_twins(TORUS)),
                  ((4, 5), (1, 1), total(THREE)))

    def test_wrong(self):
        self.raises(TooMany(10, 9), total_by_twins, TEN)
        self.raises(TooMany(10, 9), mean_by_twins, TEN, None)
        for lot in NO_NUMBERS + ((2,), [0, 2], (0, 1, 2)):
            self.raises(BadLot(), mean_by_twins, TORUS, lot)
        for lot in ((0,), [1]):
            self.raises(OddLot(), mean_by_twins, TORUS, lot)


if __name__ == "__main__":
    unittest.main()
