"""leanwebs.moves: point [40]."""

import unittest

from leanwebs.errors import BadTie, UnlikeShapes
from leanwebs.moves import both_greater, told_by_ties
from leanwebs.webs import Web
from tests.helper import HALF, Case, Numbers, mean_of, pulls_of

PLAIN = (Web(1, []), Web(4, []), Web.line(HALF), Web.line(0, HALF, 0), Web.ring(HALF, HALF, HALF),
         Web(4, [(2, 0, HALF), (1, 3, 0), (0, 1, HALF), (3, 0, 0), (2, 1, 0), (2, 3, 0)]),
         Web(5, [(4, 0, HALF), (1, 3, 0), (0, 1, HALF), (3, 0, 0), (2, 1, 0), (2, 3, 0), (4, 2, 0)]))


def others_of(web, seed):
    numbers = Numbers(seed)
    return [Web(web.many, [(u, v, numbers.pull(-1)) for u, v, _ in web.ties]) for _ in range(8)]


def means_at(web):
    return [mean_of(web, (u, v)) for u, v, _ in web.ties]


class TestMoves(Case):
    def test_both_greater(self):
        for at, web in enumerate(PLAIN):
            made = [(one, means_at(one)) for one in others_of(web, at)]
            for one, means in made:
                for other, means_there in made:
                    found = [k for k, t in enumerate(pulls_of(one))
                             if (t - pulls_of(other)[k]) * (means[k] - means_there[k]) > 0]
                    self.assertEqual(bool(found), one != other)
                    self.same(both_greater(one, other), found[0] if found else None)

    def test_told_by_ties(self):
        for at, web in enumerate(PLAIN):
            made = [(one, means_at(one)) for one in others_of(web, at)]
            for one, means in made:
                for other, means_there in made:
                    same = means == means_there
                    self.same(told_by_ties(one, other), same)
                    self.assertEqual(same, one == other)

    def test_known(self):
        one, other = Web.line(HALF, (1, 3)), Web.line(HALF, (1, 4))
        self.same(both_greater(one, other), 1)
        self.same(both_greater(other, one), 1)
        self.same(both_greater(one, Web.line([2, 4], [3, 9])), None)
        self.same(told_by_ties(one, Web.line([2, 4], [3, 9])), True)
        # In the first web the pull of tie 0 is greater, but its mean is less, as the others pull more in the second.
        one, other = Web.ring((1, 10), 0, 0), Web.ring((1, 20), HALF, HALF)
        self.same(both_greater(one, other), 1)
        ring = Web.ring(*[(k - 5, 7) for k in range(10)])
        self.same(both_greater(ring, ring.with_pull(9, 0)), 9)
        self.same(told_by_ties(ring, ring.with_pull(9, 0)), False)

    def test_unlike_shapes_first(self):
        web = Web(3, [(0, 0, HALF), (1, 2, HALF)])
        for other in (Web(3, []), Web(4, web.ties), Web(3, [(0, 0, HALF), (2, 1, HALF)]), Web.line(HALF, HALF)):
            for call in (both_greater, told_by_ties):
                self.raises(UnlikeShapes(), call, web, other)

    def test_not_plain(self):
        for ties, k in (([(0, 0, HALF)], 0), ([(0, 1, HALF), (1, 2, 0), (2, 2, 0)], 2),
                        ([(0, 1, HALF), (1, 2, 0), (0, 1, 0), (1, 1, 0)], 2), ([(0, 1, HALF), (1, 0, HALF)], 1),
                        ([(0, 1, 0), (1, 2, 0), (2, 0, 0), (2, 1, 0), (0, 1, 0)], 3)):
            for call in (both_greater, told_by_ties):
                self.raises(BadTie(k), call, Web(3, ties), Web(3, ties))


if __name__ == "__main__":
    unittest.main()
