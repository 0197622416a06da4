"""leanwebs.partings: points [8], [92] and [96]."""

import itertools
import unittest

from leanwebs.errors import BadLot, BadParting, BadRatio, BadRow, TooMany
from leanwebs.partings import even_in, glued_web, hanging_partings, partings, smooth_partings
from leanwebs.webs import Web
from tests.helper import (HALF, LEAN, MIXED, NO_LISTS, NO_NUMBERS, NO_RATIOS, WIDE, Case, MyInt, MyList, MyTuple,
                          all_partings, all_subsets, hangs_told, is_even_in)

BELL = (1, 1, 2, 5, 15, 52, 203)
CATALAN = (1, 1, 2, 5, 14, 42, 132)
SEVEN = tuple(range(7))
NO_PARTINGS = NO_LISTS + tuple([(1,), block] for block in NO_NUMBERS + ((), [], (1, 2), [3, 1])) + ([(0, 1), [1, 2]],)


def crosses(parting, row):
    """Whether there are a, b, c, d in the order of the row, a and c in one block, b and d in another one."""
    found = {place: block for block in parting for place in block}
    return any(found[a] == found[c] and found[b] == found[d] and found[a] != found[b]
               for a, b, c, d in itertools.combinations(row, 4))


class TestPartings(Case):
    def test_all(self):
        for places in ((), [4], (0, 1), [5, 2, 9], (3, 1, 0, 2), [10 ** 20, 3, 0, 1, 7], (5, 4, 3, 2, 1, 0)):
            found = list(partings(places))
            self.same(found, all_partings(sorted(places)))
            self.assertEqual(found, sorted(found))
            self.assertEqual(len(found), BELL[len(places)])

    def test_known(self):
        self.same(list(partings(())), [()])
        self.same(list(partings([2, 0, 1])), [((0,), (1,), (2,)), ((0,), (1, 2)), ((0, 1), (2,)), ((0, 1, 2),),
                                              ((0, 2), (1,))])
        self.same(list(partings(MyTuple([MyInt(1)]))), [((1,),)])

    def test_wrong_at_the_first_step(self):
        for places in NO_NUMBERS + ([0, 1, 2, 3, 4, 5, 6, 6],):
            waiting = partings(places)
            self.raises(BadLot(), next, waiting)
        waiting = partings(range(6))
        self.raises(BadLot(), next, waiting)
        for places in (SEVEN, list(SEVEN), tuple(range(12))):
            self.raises(TooMany(len(places), 6), next, partings(places))
        self.assertEqual(next(partings(SEVEN[:6])), tuple((place,) for place in range(6)))


class TestEvenIn(Case):
    def test_values(self):
        for many in range(5):
            for parting in all_partings(range(many)):
                for lot in all_subsets(range(many)):
                    self.same(even_in(parting, lot), is_even_in(lot, parting))
                    self.same(even_in([list(block[::-1]) for block in parting[::-1]], list(lot[::-1])),
                              is_even_in(lot, parting))

    def test_places_outside_do_not_count(self):
        self.same(even_in(((7, 3), (10 ** 20,)), (3, 7, 1, 2, 5)), True)
        self.same(even_in([[7, 3], [5]], [3, 1]), False)
        self.same(even_in((), (4,)), True)
        self.same(even_in(MyList([MyTuple([MyInt(1), 2])]), MyList([2, MyInt(1)])), True)

    def test_wrong(self):
        for parting in NO_PARTINGS:
            self.raises(BadParting(), even_in, parting, None)
        for lot in NO_NUMBERS:
            self.raises(BadLot(), even_in, ((0,), (1,)), lot)


class TestHanging(Case):
    def test_values(self):
        for web in MIXED + LEAN:
            wanted = [parting for parting in all_partings(range(web.many))
                      if all(hangs_told(web, block, True) for block in parting)]
            self.same(hanging_partings(web), wanted)

    def test_by_the_shape(self):
        web = Web(3, [(0, 1, 0), (2, 2, HALF)])
        self.same(hanging_partings(web), [((0,), (1,), (2,)), ((0, 1), (2,))])
        self.same(hanging_partings(Web(1, [])), [((0,),)])
        self.same(len(hanging_partings(Web(6, [(k, 5, (-1, 2)) for k in range(5)] * 2))), 32)
        found = hanging_partings(web)
        found.clear()
        self.same(len(hanging_partings(web)), 2)

    def test_wrong(self):
        self.raises(TooMany(7, 6), hanging_partings, Web(7, []))
        self.raises(TooMany(10, 6), hanging_partings, WIDE)


class TestSmooth(Case):
    def test_values(self):
        for row in ((), [3], (1, 0), [2, 9, 5], (0, 2, 1, 3), [3, 1, 4, 0, 2], (5, 0, 3, 1, 4, 2), list(range(6))):
            found = smooth_partings(row)
            self.same(found, [one for one in all_partings(sorted(row)) if not crosses(one, row)])
            self.assertEqual(len(found), CATALAN[len(row)])

    def test_known(self):
        self.assertNotIn(((0, 2), (1, 3)), smooth_partings((0, 1, 2, 3)))
        self.assertIn(((0, 2), (1, 3)), smooth_partings([0, 2, 1, 3]))
        self.assertNotIn(((0, 1), (2, 3)), smooth_partings((0, 2, 1, 3)))
        self.same(smooth_partings(MyList([MyInt(1), 0])), [((0,), (1,)), ((0, 1),)])

    def test_wrong(self):
        for row in NO_NUMBERS + ([0, 1, 2, 3, 4, 5, 6, 0],):
            self.raises(BadRow(), smooth_partings, row)
        for row in (SEVEN, list(SEVEN[::-1])):
            self.raises(TooMany(7, 6), smooth_partings, row)


class TestGluedWeb(Case):
    def test_values(self):
        for web in MIXED + LEAN[:14]:
            for parting in all_partings(range(web.many))[::3]:
                found = glued_web(web, [list(block[::-1]) for block in parting[::-1]], [6, 8])
                together = {place: block for block in parting for place in block}
                self.assertEqual(found.shape, web.shape)
                self.same(tuple(t for _, _, t in found.ties),
                          tuple((3, 4) if together[u] == together[v] else (0, 1) for u, v, _ in web.ties))

    def test_edges(self):
        web = Web(2, [(0, 0, (-1, 2)), (1, 0, HALF)])
        self.same(glued_web(web, ((0,), (1,)), HALF).ties, ((0, 0, HALF), (1, 0, (0, 1))))
        self.same(glued_web(web, ((0, 1),), 0).ties, ((0, 0, (0, 1)), (1, 0, (0, 1))))
        self.same(glued_web(web, ((0, 1),), (999, 1000)).pull(1), (999, 1000))
        self.same(glued_web(WIDE, (tuple(range(10)),), HALF).ties[9][2], HALF)
        self.assertEqual(web.ties, ((0, 0, (-1, 2)), (1, 0, HALF)))

    def test_wrong(self):
        web = Web.line(HALF, HALF)
        for parting in NO_PARTINGS + (((0, 1),), ((0, 1), (2, 3)), (), ((0, 1, 2), ())):
            self.raises(BadParting(), glued_web, web, parting, None)
        for pull in NO_RATIOS + (1, (3, 3), (-1, 2), -1, [5, 4], (-1, 10 ** 9)):
            self.raises(BadRatio(), glued_web, web, ((0, 1, 2),), pull)


if __name__ == "__main__":
    unittest.main()
