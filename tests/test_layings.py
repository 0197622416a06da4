"""leanwebs.layings: points [80] to [83], [121] to [125] and [132]."""

import unittest

from leanwebs.errors import Apart, BadLaying, BadLot, BadPlace, BadTie, NoTie, NotPositive, TooMany
from leanwebs.layings import Laying, plain_laying
from leanwebs.rows import crossing_four, is_smooth, off, pairings_of, row_by_pairing, row_chance
from leanwebs.sums import mean
from leanwebs.webs import Web
from tests.helper import (HALF, LAID, LEAN, NO_INTEGERS, NO_LISTS, NO_NUMBERS, Case, MyInt, MyList, MyTuple, Numbers,
                          all_subsets, ends_at, joined_lots, layings_of, no_places, odd_ends_of, pulls_of, ratio,
                          some_orders)

RING = Web.ring(HALF, HALF, HALF)
LOOPS = Web(1, [(0, 0, HALF)] * 10)


def faces_told(web, orders):
    """The faces, each begun at its least end, by their least ends."""
    found = {}
    for start in range(2 * len(web.ties)):
        row = [start]
        while True:
            other = row[-1] + 1 - 2 * (row[-1] % 2)
            order = next(one for one in orders if other in one)
            follower = order[(order.index(other) + 1) % len(order)]
            if follower == start:
                break
            row.append(follower)
        at = row.index(min(row))
        found[min(row)] = tuple(row[at:] + row[:at])
    return tuple(found[least] for least in sorted(found))


def begun(row):
    """A ring order begun at its least end."""
    at = row.index(min(row))
    return tuple(row[at:]) + tuple(row[:at])


class TestFaces(Case):
    def test_faces(self):
        handles = set()
        for web in LAID:
            for laying in layings_of(web, 6):
                faces = faces_told(web, laying.orders)
                self.same(laying.faces, faces)
                self.assertEqual(sorted(end for face in faces for end in face), list(range(2 * len(web.ties))))
                twice = 2 - web.many + len(web.ties) - len(faces)
                self.assertTrue(twice >= 0 and twice % 2 == 0)
                self.same((laying.handles, laying.plane), (twice // 2, twice == 0))
                handles.add(laying.handles)
        self.assertTrue({0, 1, 2} <= handles)

    def test_attributes(self):
        for at, web in enumerate(LAID):
            orders = some_orders(Numbers(at), web)
            laying = Laying(web, tuple(MyTuple(MyInt(end) for end in order) for order in orders))
            self.same(laying.orders, tuple(tuple(order) for order in orders))
            self.assertEqual(laying.web, web)
            self.assertEqual(Laying(web, orders).faces, laying.faces)
        orders = [[0, 5], [2, 1], [4, 3]]
        laying = Laying(RING, MyList(orders))
        orders[0].append(7), orders.append(3)
        self.same((laying.orders, laying.faces, laying.handles), (((0, 5), (2, 1), (4, 3)), ((0, 2, 4), (1, 5, 3)), 0))

    def test_plain(self):
        for web in LAID:
            laying = plain_laying(web)
            self.same(laying.orders, tuple(tuple(ends_at(web, place)) for place in range(web.many)))
        laying = plain_laying(RING)
        self.same((laying.faces, laying.handles, laying.at_face(1), laying.twin().web.ties),
                  (((0, 2, 4), (1, 5, 3)), 0, (1, 0, 2), ((0, 1, (1, 3)),) * 3))
        self.same(plain_laying(Web.line(HALF)).faces, ((0, 1),))
        self.same(plain_laying(Web(1, [(0, 0, HALF)])).faces, ((0,), (1,)))

    def test_known(self):
        web = Web(2, [(0, 1, HALF), (0, 1, (1, 3)), (0, 1, (1, 5))])
        laying = Laying(web, [[0, 2, 4], [1, 3, 5]])
        self.same((laying.faces, laying.handles, laying.plane), (((0, 3, 4, 1, 2, 5),), 1, False))
        laying = Laying(web, [[0, 2, 4], [5, 3, 1]])
        self.same((laying.faces, laying.handles, laying.plane), (((0, 5), (1, 2), (3, 4)), 0, True))
        four = Laying(Web(1, [(0, 0, HALF)] * 8), [[0, 2, 1, 3, 4, 6, 5, 7, 8, 10, 9, 11, 12, 14, 13, 15]])
        self.same((four.handles, len(four.faces), four.at_face(0)), (4, 1, (0,)))

    def test_ring_orders_may_begin_anywhere(self):
        for web in LAID:
            laying = layings_of(web, 1)[1]
            turned = Laying(web, [order[1:] + order[:1] for order in laying.orders])
            self.same(turned.faces, laying.faces)


class TestQuestions(Case):
    def test_face_of_and_at_face(self):
        for web in LAID:
            for laying in layings_of(web, 3):
                for number, face in enumerate(laying.faces):
                    for end in face:
                        self.same(laying.face_of(end), number)
                    places = [web.ties[end // 2][end % 2] for end in face]
                    self.same(laying.at_face(number), tuple(dict.fromkeys(places)))
        self.same((plain_laying(RING).face_of(MyInt(3)), plain_laying(RING).at_face(MyInt(1))), (1, (1, 0, 2)))

    def test_cuts(self):
        for web in LAID:
            for laying in layings_of(web, 3):
                faces, cuts = range(len(laying.faces)), {}
                for lot in all_subsets(faces):
                    inside = {end for number in lot for end in laying.faces[number]}
                    wanted = tuple(k for k in range(len(web.ties)) if (2 * k in inside) != (2 * k + 1 in inside))
                    self.same(laying.cut(list(lot[::-1])), wanted)
                    self.assertEqual(odd_ends_of(web, wanted), ())
                    cuts.setdefault(wanted, []).append(lot)
                self.assertEqual(len(cuts), 2 ** (len(laying.faces) - 1))
                for one, other in cuts.values():
                    self.assertEqual(joined_lots(one, other), tuple(faces))
        self.same((plain_laying(RING).cut(()), plain_laying(RING).cut((MyInt(1),)), plain_laying(RING).cut([1, 0])),
                  ((), (0, 1, 2), ()))

    def test_wrong(self):
        laying = plain_laying(RING)
        for end in NO_INTEGERS + (-1, 6, 10 ** 20):
            self.raises(BadTie(end), laying.face_of, end)
        for number in no_places(2):
            self.raises(BadPlace(), laying.at_face, number)
        for lot in NO_NUMBERS + ((2,), [0, 2], (0, 1, 2)):
            self.raises(BadLot(), laying.cut, lot)


class TestTwin(Case):
    def test_twin(self):
        for web in LAID:
            for laying in layings_of(web, 4):
                twin = laying.twin()
                self.assertIs(type(twin), Laying)
                ties = tuple((laying.face_of(2 * k), laying.face_of(2 * k + 1), ratio((1 - told) / (1 + told)))
                             for k, told in enumerate(pulls_of(web)))
                self.same((twin.web.many, twin.web.ties), (len(laying.faces), ties))
                self.same((twin.orders, twin.handles), (laying.faces, laying.handles))
                self.same(twin.faces, tuple(sorted(begun(order) for order in laying.orders)))

    def test_twin_of_the_twin(self):
        for web in LAID:
            for laying in layings_of(web, 4):
                back = laying.twin().twin()
                order = sorted(range(web.many), key=lambda place: min(laying.orders[place]))
                self.same(back.web.ties, tuple((order.index(u), order.index(v), t) for u, v, t in web.ties))
                self.same(back.orders, tuple(begun(laying.orders[place]) for place in order))

    def test_ten_faces_and_more(self):
        laying = plain_laying(LOOPS)
        self.same((len(laying.faces), laying.handles), (11, 0))
        self.raises(TooMany(11, 10), laying.twin)
        laying = plain_laying(Web(1, [(0, 0, HALF)] * 9))
        self.same((len(laying.faces), laying.twin().web.many, laying.twin().handles), (10, 10, 0))
        crossed = Laying(LOOPS, [[0, 2, 1, 3] + list(range(4, 20))])
        self.same((crossed.handles, len(crossed.faces), len(crossed.twin().faces)), (1, 9, 1))

    def test_equal(self):
        laying = Laying(RING, [[0, 5], [2, 1], [4, 3]])
        self.same(laying == Laying(Web.ring(HALF, [2, 4], HALF), ((0, 5), (2, 1), (4, 3))), True)
        for other in (Laying(RING, [[5, 0], [2, 1], [4, 3]]), plain_laying(Web.ring(HALF, HALF, (1, 3))), RING, None,
                      Laying(Web.ring(HALF, HALF, (1, 3)), laying.orders), laying.orders, plain_laying(Web(3, [(1, 0, HALF), (1, 2, HALF), (2, 0, HALF)]))):
            self.same((laying == other, laying != other), (False, True))
        self.same(plain_laying(RING) == Laying(RING, plain_laying(RING).orders), True)


class TestRowsAtFaces(Case):
    def test_smooth(self):
        plane = crossings = 0
        for web in LEAN[1:]:
            for laying in layings_of(web, 8):
                for number in range(len(laying.faces)):
                    row = laying.at_face(number)
                    if laying.plane:
                        plane += 1
                        self.same(is_smooth(web, row), True)
                    elif crossing_four(web, row) is not None:
                        crossings += 1
        self.assertGreater(plane, 60)
        self.assertGreater(crossings, 3)


    def test_facts_of_smooth_rows(self):
        count = 0
        for web in LEAN[1:15]:
            laying = plain_laying(web)
            for number in range(len(laying.faces) if laying.plane else 0):
                row = laying.at_face(number)
                for lot in all_subsets(sorted(row)):
                    if len(lot) in (2, 4):
                        self.same(pairings_of(web, row, lot), mean(web, lot))
                        self.same(off(web, row, lot), (0, 1))
                        count += len(lot) == 4
                for said in ([1] * len(row), [1 - 2 * (k % 2) for k in range(len(row))]):
                    self.same(row_by_pairing(web, row, said), row_chance(web, row, said))
        self.assertGreater(count, 5)


class TestWrong(Case):
    def test_webs(self):
        for make in (plain_laying, lambda web: Laying(web, None)):
            for web in (Web(1, []), Web(3, [])):
                self.raises(NoTie(), make, web)
            self.raises(NotPositive(1), make, Web(4, [(0, 1, HALF), (0, 1, 0), (0, 1, (-1, 2))]))
            self.raises(NotPositive(0), make, Web(1, [(0, 0, (-1, 2))]))
            self.raises(Apart(), make, Web(3, [(0, 1, HALF), (2, 2, HALF)]))

    def test_orders(self):
        good = [[0, 5], [2, 1], [4, 3]]
        for orders in NO_LISTS + ([], good[:2], good + [[]], tuple(good) + ((),), "abc"):
            self.raises(BadLaying(-1), Laying, RING, orders)
        for order in NO_NUMBERS + ([], [2], [2, 1, 1], [2, 1, 0], [2, 2], [1, 3], [2, 1, 6], [-1, 2], [2, True], [1.0, 2],
                                   {1: 2, 2: 1}, "12", {1, 2}):
            self.raises(BadLaying(1), Laying, RING, [good[0], order, None])
            self.raises(BadLaying(0), Laying, RING, [order, good[1], good[2]])
        self.raises(BadLaying(2), Laying, RING, [[5, 0], (1, 2), [4, 5]])


if __name__ == "__main__":
    unittest.main()
