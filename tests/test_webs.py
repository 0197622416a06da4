"""leanwebs.webs: points [4] and [9]."""

import unittest
from fractions import Fraction

from leanwebs.errors import BadBundle, BadCount, BadLot, BadParting, BadPull, BadTie, TooMany
from leanwebs.webs import Web
from tests.helper import (HALF, MIXED, NO_INTEGERS, NO_NUMBERS, NO_RATIOS, WIDE, Case, MyInt, MyList, MyTuple,
                          all_partings, all_subsets, fraction, ratio)

THREE = Web(3, [(0, 1, HALF), (1, 0, (-1, 3)), (2, 2, (2, 5))])
NO_NUMBERS_OF_TIES = NO_INTEGERS + (-1, 3, 10 ** 20)


class TestMaking(Case):
    def test_attributes(self):
        web = Web(3, [[0, 1, [2, 4]], (2, 1, 0), (1, 1, (-3, 9))])
        self.same(web.many, 3)
        self.same(web.ties, ((0, 1, (1, 2)), (2, 1, (0, 1)), (1, 1, (-1, 3))))
        self.same(Web(1, ()).ties, ())
        self.same((Web.most_places, Web.most_ties), (10, 10))
        self.same((web.most_places, web.most_ties), (10, 10))

    def test_subclasses(self):
        web = Web(MyInt(2), MyList([MyTuple([MyInt(1), MyInt(0), MyTuple([MyInt(2), MyInt(4)])])]))
        self.same((web.many, web.ties), (2, ((1, 0, (1, 2)),)))

    def test_nothing_is_kept(self):
        pull = [1, 2]
        tie = [0, 1, pull]
        ties = [tie]
        web = Web(2, ties)
        pull[0], tie[1] = 0, 0
        ties.append((0, 0, 0))
        self.same(web.ties, ((0, 1, (1, 2)),))

    def test_greatest(self):
        web = Web(10, [(9, 0, (1, 2))] * 10)
        self.same((web.many, len(web)), (10, 10))

    def test_bad_count_first(self):
        for many in NO_INTEGERS + (0, -3):
            self.raises(BadCount(), Web, many, None)
        self.raises(TooMany(11, 10), Web, 11, None)
        error = self.raises(TooMany(12, 10), Web, MyInt(12), None)
        self.assertIs(type(error.many), int)

    def test_bad_ties(self):
        for ties in (None, 3, "abc", {0: 1}, {1}, WIDE, range(2)):
            self.raises(BadTie(-1), Web, 2, ties)

    def test_too_many_ties_before_bad_ones(self):
        self.raises(TooMany(11, 10), Web, 2, [None] * 11)
        self.raises(TooMany(12, 10), Web, 2, ((0, 1, 3),) * 12)

    def test_bad_tie(self):
        for tie in (None, 0, "011", (), (0, 1), (0, 1, 0, 0), {0: 0, 1: 1, 2: 0}, (2, 0, 0), (0, 2, 0), (-1, 0, 0),
                    (0, -1, 0), (True, 0, 0), (0, True, 0), (False, 1, 0), (0.0, 1, 0), ("0", 1, 0), (0, None, 0),
                    (2, 0, 5)):
            with self.subTest(tie):
                self.raises(BadTie(0), Web, 2, [tie])
                self.raises(BadTie(2), Web, 2, [(0, 1, 0), (1, 1, HALF), tie, (0, 1, 5)])
        for pull in NO_RATIOS:
            with self.subTest(pull):
                self.raises(BadTie(1), Web, 2, [(0, 1, 0), (0, 1, pull)])

    def test_bad_pull(self):
        for pull in (1, -1, 2, (3, 2), (-3, 2), [4, 4], (-7, 7)):
            with self.subTest(pull):
                self.raises(BadPull(0), Web, 2, [(0, 1, pull), None])
                self.raises(BadPull(1), Web, 2, [(0, 1, 0), (0, 1, pull)])
        self.raises(BadTie(0), Web, 2, [None, (0, 1, 1)])
        self.same(Web(2, [(0, 1, (999, 1000))]).pull(0), (999, 1000))


class TestReading(Case):
    def test_shape_and_positive(self):
        self.same(THREE.shape, (3, ((0, 1), (1, 0), (2, 2))))
        self.same(Web(4, []).shape, (4, ()))
        self.same(THREE.positive, False)
        self.same(Web(4, []).positive, True)
        self.same(Web.line(HALF, 0).positive, False)
        self.same(Web.line(HALF, HALF).positive, True)
        self.assertNotEqual(Web(2, [(0, 1, 0)]).shape, Web(2, [(1, 0, 0)]).shape)
        self.assertEqual(Web(2, [(0, 1, 0)]).shape, Web(2, [(0, 1, HALF)]).shape)

    def test_pull_and_ends(self):
        self.same([THREE.pull(k) for k in range(3)], [(1, 2), (-1, 3), (2, 5)])
        self.same([THREE.ends(k) for k in range(3)], [(0, 1), (1, 0), (2, 2)])
        self.same(THREE.pull(MyInt(1)), (-1, 3))

    def test_number_of_no_tie(self):
        for number in NO_NUMBERS_OF_TIES:
            with self.subTest(number):
                self.raises(BadTie(number), THREE.pull, number)
                self.raises(BadTie(number), THREE.ends, number)
                self.raises(BadTie(number), THREE.with_pull, number, "x")
                self.raises(BadTie(number), lambda at: THREE[at], number)
        self.assertIs(type(self.raises(BadTie(9), THREE.pull, MyInt(9)).number), int)

    def test_signs(self):
        self.same(len(THREE), 3)
        self.same(len(Web(2, [])), 0)
        self.same(THREE[1], (1, 0, (-1, 3)))
        self.same(list(THREE), [(0, 1, (1, 2)), (1, 0, (-1, 3)), (2, 2, (2, 5))])
        self.same([(0, 1, (1, 2)) in THREE, (1, 0, (1, 2)) in THREE, 0 in THREE, None in THREE, [0, 1, (1, 2)] in THREE],
                  [True, False, False, False, False])

    def test_equal(self):
        same = Web(3, [[0, 1, [3, 6]], (1, 0, (-2, 6)), (2, 2, (4, 10))])
        self.assertIs(THREE == same, True)
        self.assertIs(THREE != same, False)
        for other in (Web(4, THREE.ties), Web(3, THREE.ties[:2]), Web(3, THREE.ties[::-1]), -THREE, THREE.ties, None,
                      Web(3, [(1, 0, HALF), *THREE.ties[1:]])):
            self.assertIs(THREE == other, False)


class TestChanging(Case):
    def ties(self, web, ties, many=3):
        self.assertIsInstance(web, Web)
        self.same((web.many, web.ties), (many, ties))

    def test_with_pull(self):
        self.ties(THREE.with_pull(1, [2, 8]), ((0, 1, (1, 2)), (1, 0, (1, 4)), (2, 2, (2, 5))))
        self.ties(THREE.with_pull(MyInt(0), 0), ((0, 1, (0, 1)), (1, 0, (-1, 3)), (2, 2, (2, 5))))
        for pull in NO_RATIOS:
            self.raises(BadTie(2), THREE.with_pull, 2, pull)
        self.raises(BadPull(1), THREE.with_pull, 1, 1)
        self.raises(BadPull(0), THREE.with_pull, 0, (-5, 4))

    def test_with_tie(self):
        self.ties(Web(2, []).with_tie(1, 0, [2, 4]), ((1, 0, (1, 2)),), 2)
        self.ties(THREE.with_tie(2, 2, 0), THREE.ties + ((2, 2, (0, 1)),))
        self.raises(BadTie(3), THREE.with_tie, 0, 3, HALF)
        self.raises(BadTie(3), THREE.with_tie, True, 0, HALF)
        self.raises(BadTie(3), THREE.with_tie, 0, 1, (1, 0))
        self.raises(BadPull(3), THREE.with_tie, 0, 1, 1)
        self.raises(TooMany(11, 10), WIDE.with_tie, 0, 99, 1)

    def test_without_and_only(self):
        self.ties(THREE.without(()), THREE.ties)
        self.ties(THREE.without([2, 0]), ((1, 0, (-1, 3)),))
        self.ties(THREE.without((0, 1, 2)), ())
        self.ties(THREE.only([2, 0]), ((0, 1, (1, 2)), (2, 2, (2, 5))))
        self.ties(THREE.only([]), ())
        for bundle in all_subsets(range(3)):
            rest = [k for k in range(3) if k not in bundle]
            self.assertEqual(THREE.only(bundle), THREE.without(rest))
            self.assertEqual(THREE.only(bundle).ties, tuple(THREE.ties[k] for k in bundle))

    def test_contrary(self):
        self.ties(THREE.contrary([1]), ((0, 1, (1, 2)), (1, 0, (1, 3)), (2, 2, (2, 5))))
        self.ties(THREE.contrary([2, 0]), ((0, 1, (-1, 2)), (1, 0, (-1, 3)), (2, 2, (-2, 5))))
        self.ties(THREE.contrary(()), THREE.ties)
        self.ties(-THREE, ((0, 1, (-1, 2)), (1, 0, (1, 3)), (2, 2, (-2, 5))))
        self.ties(-Web(3, [(0, 1, 0)]), ((0, 1, (0, 1)),))

    def test_wrong_bundles(self):
        for bundle in NO_NUMBERS + ((3,), [0, 3]):
            for call in (THREE.without, THREE.only, THREE.contrary):
                with self.subTest((call.__name__, bundle)):
                    self.raises(BadBundle(), call, bundle)

    def test_turned(self):
        web = Web.ring(HALF, (-1, 3), (1, 5), (1, 7)).with_tie(1, 1, HALF)
        self.ties(web.turned([1]), ((0, 1, (-1, 2)), (1, 2, (1, 3)), (2, 3, (1, 5)), (3, 0, (1, 7)), (1, 1, (1, 2))), 4)
        self.ties(web.turned((2, 1)),
                  ((0, 1, (-1, 2)), (1, 2, (-1, 3)), (2, 3, (-1, 5)), (3, 0, (1, 7)), (1, 1, (1, 2))), 4)
        self.ties(web.turned(()), web.ties, 4)
        self.ties(web.turned((0, 1, 2, 3)), web.ties, 4)
        for lot in NO_NUMBERS + ((4,),):
            self.raises(BadLot(), web.turned, lot)

    def test_glued(self):
        web = Web.ring(HALF, (-1, 3), (1, 5), (1, 7))
        self.ties(web.glued([[3], (2, 0), [1]]), ((0, 1, (1, 2)), (1, 0, (-1, 3)), (0, 2, (1, 5)), (2, 0, (1, 7))), 3)
        self.ties(web.glued(((0, 1, 2, 3),)), ((0, 0, (1, 2)), (0, 0, (-1, 3)), (0, 0, (1, 5)), (0, 0, (1, 7))), 1)
        self.assertEqual(web.glued(((0,), (1,), (2,), (3,))), web)
        for parting in all_partings(range(4)):
            glued = web.glued(parting)
            self.assertEqual(glued.many, len(parting))
            for (u, v, t), (a, b, s) in zip(web.ties, glued.ties):
                self.assertTrue(u in parting[a] and v in parting[b] and t == s)

    def test_wrong_partings(self):
        for parting in (None, (), ((0, 1),), ((0, 1), (1, 2)), ((0, 1, 2), ()), ((0, 1), (2, 3)), (0, 1, 2),
                        ((0, True), (2,))):
            self.raises(BadParting(), THREE.glued, parting)

    def test_merged(self):
        web = Web(4, [(3, 2, HALF), (1, 1, HALF), (1, 0, HALF), (0, 1, (1, 3)), (2, 3, (-1, 2)), (3, 0, (1, 7)),
                      (2, 1, 0)])
        self.ties(web.merged(), ((0, 1, (5, 7)), (0, 3, (1, 7))), 4)
        self.ties(Web(1, [(0, 0, HALF)]).merged(), (), 1)
        for web in MIXED + (WIDE,):
            pulls = {}
            for u, v, t in web.ties:
                if u != v:
                    old = pulls.get((min(u, v), max(u, v)), Fraction(0))
                    pulls[min(u, v), max(u, v)] = (old + fraction(t)) / (1 + old * fraction(t))
            wanted = tuple((u, v, ratio(pulls[u, v])) for u, v in sorted(pulls) if pulls[u, v])
            self.ties(web.merged(), wanted, web.many)

    def test_beside(self):
        self.ties(Web.line(HALF) + Web(2, [(1, 0, (1, 3)), (0, 0, (-1, 5))]),
                  ((0, 1, (1, 2)), (3, 2, (1, 3)), (2, 2, (-1, 5))), 4)
        self.ties(Web(1, []) + Web(1, []), (), 2)
        self.raises(TooMany(11, 10), lambda: Web(5, [(0, 0, 0)] * 6) + Web(6, [(0, 0, 0)] * 5))
        self.raises(TooMany(11, 10), lambda: Web(2, [(0, 1, 0)] * 6) + Web(2, [(0, 1, 0)] * 5))
        self.raises(TooMany(12, 10), lambda: Web(6, [(0, 0, 0)] * 6) + Web(6, [(0, 0, 0)] * 5))
        with self.assertRaises(TypeError):
            THREE + 1

    def test_the_web_stays(self):
        before = (THREE.many, THREE.ties)
        THREE.with_pull(0, 0), THREE.with_tie(0, 1, 0), THREE.without([0]), THREE.only([0]), THREE.contrary([0])
        THREE.turned([0]), THREE.glued([[0, 1], [2]]), THREE.merged(), THREE + THREE, -THREE
        self.same((THREE.many, THREE.ties), before)
        for web in (THREE.without(()), THREE.contrary(()), THREE.turned(()), THREE.only((0, 1, 2))):
            self.assertIsNot(web, THREE)


class TestRows(Case):
    def test_line(self):
        self.same(Web.line(HALF, [2, 6], 0).ties, ((0, 1, (1, 2)), (1, 2, (1, 3)), (2, 3, (0, 1))))
        self.same((Web.line().many, Web.line().ties), (1, ()))
        self.same(Web.line(*[HALF] * 9).many, 10)
        self.raises(TooMany(11, 10), Web.line, *[5] * 10)

    def test_ring(self):
        self.same(Web.ring(HALF, (1, 3), 0).ties, ((0, 1, (1, 2)), (1, 2, (1, 3)), (2, 0, (0, 1))))
        self.same((Web.ring(HALF, 0).many, Web.ring(HALF, 0).ties), (2, ((0, 1, (1, 2)), (1, 0, (0, 1)))))
        self.same(Web.ring(*[HALF] * 10).ties[9], (9, 0, (1, 2)))
        self.raises(BadCount(), Web.ring)
        self.raises(BadCount(), Web.ring, HALF)
        self.raises(BadCount(), Web.ring, None)
        self.raises(TooMany(11, 10), Web.ring, *[HALF] * 11)

    def test_star(self):
        self.same(Web.star(HALF, (1, 3), 0).ties, ((0, 1, (1, 2)), (0, 2, (1, 3)), (0, 3, (0, 1))))
        self.same((Web.star().many, Web.star().ties), (1, ()))
        self.raises(TooMany(11, 10), Web.star, *[HALF] * 10)

    def test_wrong_pulls(self):
        for call in (Web.line, Web.ring, Web.star):
            self.raises(BadTie(1), call, HALF, "x", 3)
            self.raises(BadPull(1), call, HALF, -1, "x")


if __name__ == "__main__":
    unittest.main()
