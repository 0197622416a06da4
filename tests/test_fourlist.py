"""leanwebs.fourlist: point [97]."""

import itertools
import unittest

from leanwebs.errors import BadRatio
from leanwebs.fourlist import four_holds, four_sum, least_breaking
from leanwebs.fours import four_of
from leanwebs.holding import holds, is_identity
from leanwebs.rims import is_rim_identity
from leanwebs.webs import Web
from leanwebs.worths import TwoSum
from leanwebs.ways import cuts_all
from tests.helper import HALF, LEAN, NO_RATIOS, NOT_BELOW, Case, MyInt, fraction, ratio, ways_told

NUMBERS = ((-2, 1), (-1, 1), (-1, 2), (0, 1), (1, 2), (1, 1), (3, 2))
MANY = list(itertools.product(NUMBERS, repeat=4))


def worth_told(web, told):
    four = four_of(web, (0, 1, 2, 3))
    return sum(fraction(c) * fraction(mean) for c, mean in zip(told, (four.whole,) + four.products))


class TestHolds(Case):
    def test_four_numbers(self):
        for told in MANY:
            m, p, q, r = [fraction(one) for one in told]
            self.same(four_holds(*told), min(m + p, m + q, m + r, m + p + q + r) >= 0)

    def test_webs(self):
        webs = [web for web in NOT_BELOW + LEAN if web.many >= 4]
        self.assertGreater(len(webs), 10)
        for told in MANY[::13]:
            if four_holds(*told):
                for web in webs:
                    self.assertGreaterEqual(worth_told(web, told), 0)

    def test_cuts_all(self):
        for told in ((2, -1, -1, 0), (3, -1, -1, -1), ((1, 2), 0, 0, (-1, 2)), (1, 1, -1, -1)):
            self.same(four_holds(*told), True)
            rows = [one if isinstance(one, tuple) else (one, 1) for one in told]
            if min(fraction(rows[0]) + fraction(one) for one in rows[1:]) > 0:
                for web in LEAN:
                    if web.many >= 4:
                        self.same(worth_told(web, rows) == 0, cuts_all(web, (0, 1, 2, 3)) is not None)

    def test_known(self):
        self.same((four_holds(1, -1, 1, -1), four_holds(-1, 1, 1, 0), four_holds(0, 0, 0, 0)), (True, False, True))
        self.same((four_holds(1, -1, -1, [2, 2]), four_holds(1, (-1, 3), (-1, 3), (-1, 3)),
                   four_holds(1, (-1, 3), (-1, 3), (-334, 1000))), (True, True, False))


class TestLeastBreaking(Case):
    def test_values(self):
        for told in MANY:
            m, p, q, r = [fraction(one) for one in told]
            found = least_breaking(*told)
            if four_holds(*told):
                self.same(found, None)
                continue
            self.assertLess(worth_told(found, told), 0)
            wanted = (4, (((0, 1), (2, 3)) if m + p < 0 else ((0, 2), (1, 3)) if m + q < 0 else ((0, 3), (1, 2))))
            if min(m + p, m + q, m + r) >= 0:
                wanted = (5, ((4, 0), (4, 1), (4, 2), (4, 3)))
            self.same(found.shape, wanted)
            self.assertEqual({t for _, _, t in found.ties}, {HALF})

    def test_known(self):
        self.same(least_breaking(-1, 1, 1, 0).ties, ((0, 3, HALF), (1, 2, HALF)))
        self.same(least_breaking(MyInt(0), -1, -1, -1).ties, ((0, 1, HALF), (2, 3, HALF)))
        self.same(least_breaking(1, 0, [-6, 4], (-2, 1)).ties, ((0, 2, HALF), (1, 3, HALF)))
        self.same(least_breaking(1, -1, -1, 0).ties, tuple((4, k, HALF) for k in range(4)))


class TestFourSum(Case):
    def test_worth(self):
        for web in NOT_BELOW + LEAN:
            if web.many == 4:
                for told in MANY[::71]:
                    self.same(four_sum(*told).worth(web), ratio(worth_told(web, told)))

    def test_rows(self):
        found = four_sum((2, 4), 0, -1, 3)
        self.assertIs(type(found), TwoSum)
        self.same((found.many, found.lot, found.rows),
                  (4, (0, 1, 2, 3), (((), HALF), ((0, 2), (-1, 1)), ((0, 3), (3, 1)))))

    def test_rim_identity(self):
        for told in MANY[::5] + [((k, 2), (-k, 2), (k, 2), (-k, 2)) for k in range(-3, 4)]:
            m, p, q, r = [fraction(one) for one in told]
            self.same(is_rim_identity(four_sum(*told), (0, 1, 2, 3)), m == q == -p == -r)

    def test_link(self):
        one = four_sum(-1, 1, -1, 1)
        crossings = 0
        for web in LEAN + (Web(4, [(0, 2, 0), (1, 3, 0)]), Web(4, [(0, 1, 0), (2, 3, 0)]), Web(4, [])):
            if web.many == 4:
                self.same(one.worth(web), ratio(-2 * fraction(four_of(web, (0, 1, 2, 3)).links[1])))
                meet = all(set(first) & set(second) for _, first in ways_told(web, 0, 2, True)
                           for _, second in ways_told(web, 1, 3, True))
                self.same(holds(one, web), meet)
                self.same(is_identity(one, web), meet)
                crossings += not meet
        self.assertGreater(crossings, 1)


class TestWrong(Case):
    def test_ratios(self):
        for call in (four_holds, least_breaking, four_sum):
            for number in NO_RATIOS:
                for at in range(4):
                    told = [1, 1, 1, 1]
                    told[at] = number
                    self.raises(BadRatio(), call, *told)


if __name__ == "__main__":
    unittest.main()
