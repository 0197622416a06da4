"""leanwebs.portraits: points [61], [62], [76], [79], [84], [145] and [146]."""

import itertools
import unittest

from leanwebs.errors import BadRow, TooMany
from leanwebs.fours import four_in
from leanwebs.portraits import Portrait, seen_portrait, told_portrait
from leanwebs.spreads import Spread, is_webs, spread_of_means
from leanwebs.webs import Web
from tests.helper import (HALF, LEAN, MIXED, NO_LISTS, WIDE, Case, MyInt, MyList, MyTuple, Numbers, all_subsets, fraction,
                          fours_of, no_places, pairs_of, parts_of, ways_told)


def rows_of(portrait):
    return (portrait.many, portrait.cutting, portrait.links, portrait.hinges)


def parted(many, size):
    return [(x, lot) for x in range(many) for lot in itertools.combinations(range(many), size) if x not in lot]


def seen_told(web, kept):
    """The seen portrait, by the ways of the web."""
    many = len(kept)
    ways = {(u, v): [set(places) for _, places in ways_told(web, u, v)] for u in range(web.many)
            for v in range(web.many) if u != v}
    cutting = tuple((x, u, w) for x, (u, w) in parted(many, 2)
                    if all(kept[x] in places for places in ways[(kept[u], kept[w])]))

    def linked(u, v, w, z):
        return any(not one & other for one in ways[(kept[u], kept[v])] for other in ways[(kept[w], kept[z])])

    links = tuple((linked(a, b, c, d), linked(a, c, b, d), linked(a, d, b, c)) for a, b, c, d in fours_of(many))
    hinges = []
    for f, three in parted(many, 3):
        others = [place for place in range(web.many) if place != kept[f]]
        blocks = parts_of(others, [(u, v) for u, v, t in web.ties if t != (0, 1) and kept[f] not in (u, v)])
        if not any(all(kept[place] in block for place in three) for block in blocks):
            hinges.append((f, three))
    return (many, cutting, links, tuple(hinges))


def told_told(spread):
    """The told portrait, by the means of the spread."""
    def told(u, v):
        return fraction(spread.mean((u, v)))

    cutting = tuple((x, u, w) for x, (u, w) in parted(spread.many, 2) if told(u, w) == told(u, x) * told(x, w))
    links = tuple(tuple(fraction(link) > 0 for link in four_in(spread, four).links) for four in fours_of(spread.many))
    hinges = tuple((f, (u, v, w)) for f, (u, v, w) in parted(spread.many, 3)
                   if fraction(four_in(spread, (f, u, v, w)).knot) == told(f, u) * told(f, v) * told(f, w))
    return (spread.many, cutting, links, hinges)


def kept_rows(web):
    """Some rows of places of the web, in order and not."""
    numbers = Numbers(web.many + len(web.ties))
    rows = [(), (web.many - 1,), tuple(range(web.many)), tuple(range(web.many))[::-1]]
    for _ in range(2):
        left, row = list(range(web.many)), []
        while left and len(row) < 5:
            row.append(left.pop(numbers.below(len(left))))
        rows.append(tuple(row))
    return rows


class TestPortrait(Case):
    def test_attributes(self):
        cutting, links, hinges = [[0, 2, 1], (3, 1, 0)], [[True, False, True]], [[0, [3, 2, 1]], (1, (0, 2, 3))]
        found = Portrait(4, cutting, links, hinges)
        wanted = (4, ((0, 2, 1), (3, 1, 0)), ((True, False, True),), ((0, (3, 2, 1)), (1, (0, 2, 3))))
        self.same(rows_of(found), wanted)
        cutting.append(1), cutting[0].append(5), links[0].append(3), hinges[0][1].append(4)
        self.same(rows_of(found), wanted)
        self.same(rows_of(Portrait(0, (), [], ())), (0, (), (), ()))
        told = Portrait(MyInt(9), MyList([MyTuple((MyInt(1), 2, 3))]), MyTuple([MyList([True])]),
                        MyList([MyList([MyInt(2), MyTuple((MyInt(3), 1))])]))
        self.same(rows_of(told), (9, ((1, 2, 3),), ((True,),), ((2, (3, 1)),)))

    def test_equal(self):
        rows = (4, [(0, 1, 2)], [(True, False, False)], [(0, (1, 2, 3))])
        one = Portrait(*rows)
        self.same(one == Portrait(4, ((0, 1, 2),), [[True, False, False]], [[0, [1, 2, 3]]]), True)
        for other in (Portrait(5, *rows[1:]), Portrait(4, [], rows[2], rows[3]), Portrait(4, rows[1], [], rows[3]),
                      Portrait(4, rows[1], rows[2], []), Portrait(4, [(0, 1, 3)], rows[2], rows[3]), None, 4, rows, "a"):
            self.same((one == other, one != other), (False, True))


class TestSeen(Case):
    def test_values(self):
        for web in MIXED + LEAN:
            for row in kept_rows(web):
                found = seen_portrait(web, list(row))
                self.assertIs(type(found), Portrait)
                self.same(rows_of(found), seen_told(web, row))

    def test_known(self):
        seen = seen_portrait(Web.star(HALF, HALF, HALF), (0, 1, 2, 3))
        self.same(rows_of(seen), (4, ((0, 1, 2), (0, 1, 3), (0, 2, 3)), ((False, False, False),), ((0, (1, 2, 3)),)))
        seen = seen_portrait(Web.star(HALF, HALF, HALF), MyList([1, MyInt(0), 3]))
        self.same(rows_of(seen), (3, ((1, 0, 2),), (), ()))
        self.same(rows_of(seen_portrait(Web.ring(HALF, 0, (-1, 2)), [2, 1, 0])), (3, ((2, 0, 1),), (), ()))
        self.same(rows_of(seen_portrait(Web(3, []), (0, 1, 2))), (3, ((0, 1, 2), (1, 0, 2), (2, 0, 1)), (), ()))
        self.same(rows_of(seen_portrait(WIDE_ENOUGH, ())), (0, (), (), ()))

    def test_wrong(self):
        self.raises(TooMany(7, 6), seen_portrait, Web(7, [(0, 0, HALF)] * 10), None)
        self.raises(TooMany(10, 6), seen_portrait, WIDE, None)
        self.raises(TooMany(10, 9), seen_portrait, Web(6, [(0, 0, HALF)] * 10), None)
        web = Web.ring(HALF, HALF, HALF, HALF)
        for kept in NO_LISTS + tuple((1, place) for place in no_places(4)) + ((0, 0), [2, 1, 2], (0, 1, 2, 3, 3)):
            self.raises(BadRow(), seen_portrait, web, kept)


WIDE_ENOUGH = Web(6, [(0, 1, HALF), (2, 3, 0)])


class TestTold(Case):
    def test_values(self):
        for web in MIXED + LEAN:
            self.same(rows_of(told_portrait(Spread.of(web))), told_told(Spread.of(web)))
        for spread in (spread_of_means(7, [((0, 1), (1, 4)), ((2, 3), (1, 4)), ((3, 4, 5, 6), (1, 8))]),
                       spread_of_means(5, [(pair, (1, 9)) for pair in pairs_of(5)]), Spread([HALF, HALF])):
            found = told_portrait(spread)
            self.assertIs(type(found), Portrait)
            self.same(rows_of(found), told_told(spread))

    def test_the_seen_one(self):
        count = 0
        for web in LEAN:
            spread = Spread.of(web)
            for lot in all_subsets(range(web.many)):
                if lot and (web.many < 6 or len(lot) > 3):
                    rest = [place for place in range(web.many) if place not in lot]
                    left = spread.left_out(rest)
                    self.assertTrue(told_portrait(left) == seen_portrait(web, lot), (web.ties, lot))
                    count += not is_webs(left)
        self.assertGreater(count, 0)

    def test_whatever_the_pulls(self):
        for at, web in enumerate(LEAN):
            numbers = Numbers(at)
            other = Web(web.many, [(u, v, numbers.pull(1)) for u, v, _ in web.ties])
            self.same(told_portrait(Spread.of(web)) == told_portrait(Spread.of(other)), True)

    def test_one_more_tie(self):
        for web in LEAN:
            if len(web.ties) < 9:
                row = tuple(range(web.many))
                one, numbers = seen_portrait(web, row), Numbers(web.many)
                other = seen_portrait(web.with_tie(numbers.below(web.many), numbers.below(web.many), (1, 5)), row)
                self.assertTrue(set(other.cutting) <= set(one.cutting))
                self.assertTrue(set(other.hinges) <= set(one.hinges))
                for links, more in zip(one.links, other.links):
                    self.assertTrue(all(new or not old for old, new in zip(links, more)))


if __name__ == "__main__":
    unittest.main()
