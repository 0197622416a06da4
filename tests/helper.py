"""What the tests share: sample webs, and the document's definitions once more, over fractions and without short cuts."""

import itertools
import unittest
from fractions import Fraction

from leanwebs.layings import Laying, plain_laying
from leanwebs.webs import Web


class Numbers:
    """A row of numbers that look arbitrary and are the same in each run."""

    def __init__(self, seed):
        self.state = seed * 2 + 1

    def below(self, limit):
        self.state = (self.state * 6364136223846793005 + 1442695040888963407) % 2 ** 64
        return (self.state >> 33) % limit

    def pull(self, lowest):
        """A pull: lowest is -1 for all signs, 0 for none below 0, 1 for above 0."""
        q = 1 + self.below(6)
        if lowest == 1:
            return (1 + self.below(q), q + 1)
        p = self.below(q)
        return (-p if lowest < 0 and self.below(2) else p, q)

    def web(self, many, ties, lowest=-1):
        return Web(many, [(self.below(many), self.below(many), self.pull(lowest)) for _ in range(ties)])

    def some(self, entries):
        return tuple(entry for entry in entries if self.below(2))

    def even(self, many):
        lot = self.some(range(many))
        return lot[1:] if len(lot) % 2 else lot

    def saying(self, many):
        return tuple(1 - 2 * self.below(2) for _ in range(many))


HALF = (1, 2)

# Loops, two ties of the same ends, both directions, pull 0, all signs, places apart, one place, no tie.
WEBS = (
    Web(1, []),
    Web(1, [(0, 0, (-1, 3))]),
    Web(2, []),
    Web(2, [(0, 1, (1, 3))]),
    Web(2, [(1, 0, (-2, 3)), (0, 1, HALF), (0, 1, (1, 5))]),
    Web.line(HALF, 0, (-1, 4)),
    Web.ring(HALF, HALF, HALF),
    Web.ring(HALF, (-1, 2), HALF, (1, 3)),
    Web.star(HALF, (-1, 3), (2, 5)),
    Web(4, [(0, 1, HALF), (2, 3, (-1, 3)), (3, 2, (1, 5)), (1, 1, (1, 7)), (0, 0, (-1, 2))]),
    Web(5, [(0, 1, HALF), (1, 2, HALF), (2, 0, (-1, 4)), (2, 3, 0), (3, 4, (3, 4)), (4, 4, (-1, 5))]),
)
MIXED = WEBS + tuple(Numbers(seed).web(1 + seed % 5, seed % 7) for seed in range(1, 15))
NOT_BELOW = (
    Web(1, []), Web(1, [(0, 0, (1, 3)), (0, 0, (1, 2))]), Web(3, []), Web.line((1, 3)), Web.line(HALF, 0, (1, 4)),
    Web.ring(HALF, (1, 3)), Web.ring(HALF, HALF, HALF), Web.star(HALF, (1, 3), (2, 5)),
    Web(4, [(0, 1, HALF), (1, 0, (1, 3)), (2, 3, (1, 4)), (3, 3, (1, 5))]),
) + tuple(Numbers(seed).web(1 + seed % 4, seed % 6, 0) for seed in range(20, 30))
# Positive webs that hang together, of at most 6 places and 9 ties.
LEAN = (
    Web(1, []), Web(1, [(0, 0, (1, 3))]), Web.line(HALF), Web(2, [(1, 0, HALF), (0, 1, (1, 3)), (1, 1, (1, 5))]),
    Web.line(HALF, (1, 3)), Web.ring(HALF, (1, 3), (1, 4)), Web(3, [(2, 0, HALF), (1, 0, (2, 3)), (0, 1, (1, 9))]),
    Web.line(HALF, (1, 3), (1, 4)), Web.star(HALF, (1, 3), (1, 4)), Web.ring(HALF, HALF, HALF, HALF),
    Web(4, [(3, 0, HALF), (0, 2, (1, 3)), (2, 1, (2, 5)), (1, 3, (1, 4)), (0, 1, (1, 7))]),
    Web(4, [(u, v, (1, 2 + u + v)) for u in range(4) for v in range(u)]),
    Web.star(HALF, (1, 3), (1, 4), (2, 3)), Web.line(HALF, HALF, (1, 3), (1, 4)),
    Web(5, [(0, 1, HALF), (1, 2, HALF), (2, 0, (1, 4)), (2, 3, (1, 3)), (3, 4, (3, 4)), (4, 2, (1, 5))]),
    Web(5, [(0, 2, HALF), (0, 3, (1, 3)), (0, 4, (1, 4)), (1, 2, (1, 5)), (1, 3, (2, 3)), (4, 1, (1, 2))]),
    Web(5, [(2, 0, HALF), (0, 1, HALF), (1, 3, (1, 3)), (3, 4, HALF), (4, 0, (1, 4)), (3, 3, (1, 5)), (1, 4, (1, 6))]),
    Web(6, [(0, 1, HALF), (1, 2, (1, 3)), (2, 0, HALF), (3, 4, (1, 4)), (4, 5, HALF), (5, 3, (1, 5)), (0, 3, (2, 3)),
            (1, 4, HALF), (2, 5, (1, 6))]),
    Web(6, [(0, 1, HALF), (1, 2, (1, 3)), (2, 3, HALF), (3, 4, (1, 4)), (4, 5, HALF), (5, 0, (1, 5)), (1, 0, (1, 7))]),
)
# Positive webs that hang together and have ties, to be laid; one place with loops has many handles in some layings.
LAID = LEAN[1:] + (Web(1, [(0, 0, (1, 2 + k)) for k in range(4)]), Web(2, [(0, 1, (1, 2 + k)) for k in range(5)]),
                   Web(2, [(0, 1, HALF), (0, 0, (1, 3)), (1, 1, (2, 3)), (1, 0, (1, 4)), (0, 0, (2, 5))]))
WIDE = Web(10, [(k, (3 * k + 1) % 10, (2 * k - 9, 11)) for k in range(10)])


def fraction(ratio):
    return Fraction(*ratio)


def ratio(number):
    number = Fraction(number)
    return (number.numerator, number.denominator)


def product(numbers):
    found = Fraction(1)
    for number in numbers:
        found *= number
    return found


def all_sayings(many):
    return list(itertools.product((1, -1), repeat=many))


def all_subsets(entries):
    entries = tuple(entries)
    return [chosen for size in range(len(entries) + 1) for chosen in itertools.combinations(entries, size)]


def all_even(many):
    return [lot for lot in all_subsets(range(many)) if len(lot) % 2 == 0]


def pulls_of(web):
    return [fraction(tie[2]) for tie in web.ties]


def weight_of(web, saying):
    return product(1 + fraction(t) * saying[u] * saying[v] for u, v, t in web.ties)


def total_of(web):
    return sum(weight_of(web, saying) for saying in all_sayings(web.many))


def sign_of_lot(saying, lot):
    found = 1
    for place in lot:
        found *= saying[place]
    return found


def mean_of(web, lot):
    top = sum(weight_of(web, saying) * sign_of_lot(saying, lot) for saying in all_sayings(web.many))
    return top / total_of(web)


def joined_lots(*lots):
    found = set()
    for lot in lots:
        found ^= set(lot)
    return tuple(sorted(found))


def odd_ends_of(web, bundle):
    return joined_lots(*[(end,) for number in bundle for end in web.ties[number][:2]])


def parts_of(places, pairs):
    """The parting by reaching from place to place."""
    left, blocks = sorted(places), []
    while left:
        block = {left[0]}
        grows = True
        while grows:
            more = {b for u, v in pairs for a, b in ((u, v), (v, u)) if a in block} - block
            block |= more
            grows = bool(more)
        blocks.append(tuple(sorted(block)))
        left = [place for place in left if place not in block]
    return tuple(blocks)


def clusters_of(web, bundle):
    return parts_of(range(web.many), [web.ties[number][:2] for number in bundle])


def is_even_in(lot, parting):
    return all(len(set(block) & set(lot)) % 2 == 0 for block in parting)


def all_partings(places):
    """All partings of ascending places, in the form of the document, in order."""
    places = tuple(places)
    if not places:
        return [()]
    found = []
    for chosen in all_subsets(places[1:]):
        rest = [place for place in places[1:] if place not in chosen]
        found.extend(((places[0],) + chosen,) + parting for parting in all_partings(rest))
    return sorted(found)


def ways_told(web, u, v, by_shape=False):
    """All ways from u to v as tuples (way, places), the lesser first."""
    found = []

    def walk(way, places):
        if places[-1] == v:
            found.append((way, places))
            return
        for number, (a, b, t) in enumerate(web.ties):
            for here, there in ((a, b), (b, a)):
                if here == places[-1] and there not in places and (by_shape or t != (0, 1)):
                    walk(way + (number,), places + (there,))

    walk((), (u,))
    return sorted(found)


def hangs_told(web, places, by_shape=False):
    """Whether the places hang together by ties with both ends among them."""
    pairs = [(u, v) for u, v, t in web.ties if u in places and v in places and (by_shape or t != (0, 1))]
    return len(parts_of(places, pairs)) == 1


def halves_told(many):
    """The halves without place 0 of all halvings, in order."""
    return [half for half in all_subsets(range(1, many)) if half]


def hanging_told(web):
    """The hanging halvings, in order."""
    return [half for half in halves_told(web.many) if hangs_told(web, half, True)
            and hangs_told(web, [place for place in range(web.many) if place not in half], True)]


def odd_for(half, lot):
    return len(set(half) & set(lot)) % 2 == 1


def fours_of(many):
    """All lots of four places."""
    return list(itertools.combinations(range(many), 4))


def pairs_of(many):
    return list(itertools.combinations(range(many), 2))


def means_told(web):
    """The means of all even lots, as fractions."""
    weights = [(saying, weight_of(web, saying)) for saying in all_sayings(web.many)]
    whole = sum(weight for _, weight in weights)
    return {lot: sum(weight * sign_of_lot(saying, lot) for saying, weight in weights) / whole
            for lot in all_even(web.many)}


def some_rows(numbers, many, count):
    """Rows of a sum: even lots, some of them twice, not in order; ratios of all signs, 0, not in lowest terms."""
    found = []
    for _ in range(count):
        lot = numbers.even(many)
        found.append([list(lot[::-1]), [numbers.below(7) - 3, 1 + numbers.below(4)]])
    return found


def cleared_told(rows):
    """The cleared rows, as a tuple of (lot, fraction)."""
    sums = {}
    for lot, told in rows:
        lot = tuple(sorted(lot))
        sums[lot] = sums.get(lot, 0) + (told if isinstance(told, int) else fraction(told))
    return tuple((lot, sums[lot]) for lot in sorted(sums, key=lambda lot: (len(lot), lot)) if sums[lot])


def value_told(lot, rows, parting, saying=None):
    """The value of a sum with this lot and these rows at the parting, and the saying."""
    if not is_even_in(lot, parting):
        return Fraction(0)
    return sum((told * (sign_of_lot(saying, row) if saying else 1) for row, told in cleared_told(rows)
                if is_even_in(row, parting)), Fraction(0))


def trimmed(row):
    while row and row[-1] == 0:
        row = row[:-1]
    return row


def remainder(row, other):
    row = list(row)
    while len(row) >= len(other):
        factor = row[-1] / other[-1]
        for k in range(len(other)):
            row[len(row) - len(other) + k] -= factor * other[k]
        row = trimmed(row[:-1])
    return trimmed(row)


def all_real(row):
    """Whether a polynomial, lowest power first, has only real roots or is constant: Sturm's rows, without many roots."""
    row = trimmed(row)
    if len(row) < 2:
        return True
    rows = [row, [k * told for k, told in enumerate(row)][1:]]
    while rows[-1]:
        rows.append([-told for told in remainder(rows[-2], rows[-1])])
    rows = rows[:-1]
    high = [one[-1] > 0 for one in rows]
    low = [(one[-1] > 0) == (len(one) % 2 == 1) for one in rows]
    changes = sum(a != b for a, b in zip(low, low[1:])) - sum(a != b for a, b in zip(high, high[1:]))
    # The last row has just the many roots, each once less; all distinct roots have to be real.
    return changes == len(row) - len(rows[-1])


def ends_at(web, place):
    """The ends at a place, ascending: 2k and 2k + 1 for tie k."""
    return [2 * k + side for k, tie in enumerate(web.ties) for side in (0, 1) if tie[side] == place]


def some_orders(numbers, web):
    """Ring orders of the web, each in some order."""
    found = []
    for place in range(web.many):
        left, order = ends_at(web, place), []
        while left:
            order.append(left.pop(numbers.below(len(left))))
        found.append(order)
    return found


def layings_of(web, count):
    """The plain laying of the web, and some more."""
    return [plain_laying(web)] + [Laying(web, some_orders(Numbers(seed), web)) for seed in range(count)]


class Case(unittest.TestCase):
    """A test that can ask for an error with its attributes."""

    def raises(self, error, call, *args, **named):
        """The call raises an error of just this class with just these arguments."""
        with self.assertRaises(type(error)) as held:
            call(*args, **named)
        self.assertIs(type(held.exception), type(error))
        self.assertEqual(vars(held.exception), vars(error))
        return held.exception

    def same(self, found, wanted):
        """Equal values of equal kinds, tuples and lists told apart, True and 1, too."""
        self.assertEqual(found, wanted)
        self.plain(found)
        self.assertEqual(repr(found), repr(wanted))

    def plain(self, found):
        """Python's own tuples, lists and integers, all the way down."""
        self.assertIn(type(found), (tuple, list, int, bool, str, type(None)))
        if isinstance(found, (tuple, list)):
            for entry in found:
                self.plain(entry)


def no_places(many):
    """None of these is one of so many places."""
    return NO_INTEGERS + (-1, many, 10 ** 20)


def no_rows(many, length):
    """None of these is a row of just so many of the places."""
    row = list(range(length))
    found = [one for one in NO_LISTS if one is not None] + [None, row[1:], tuple(row) + (length,)]
    found += [row[:at] + [place] + row[at + 1:] for at in range(length) for place in no_places(many)]
    return found + [row[:-1] + [0], [1] + row[1:]]


class MyInt(int):
    """An integer of a subclass."""


class MyTuple(tuple):
    """A tuple of a subclass."""


class MyList(list):
    """A list of a subclass."""


# None of these is an integer.
NO_INTEGERS = (True, False, None, "1", 1.0, (1,), [1], Fraction(1))
# None of these is a ratio.
NO_RATIOS = (True, False, None, "1/2", 0.5, Fraction(1, 2), (), (1,), (1, 2, 3), (1, 0), (1, -2), (0, 0), (True, 2),
             (1, True), (1.0, 2), (1, 2.0), ("1", 2), [1], [1, 0], [None, 1], {1: 1, 2: 2})
# None of these is a tuple or a list.
NO_LISTS = (None, 0, "0123", {0: 1, 1: 2, 2: 3}, {0, 1, 2, 3}, range(4), (entry for entry in (0, 1)))
# None of these is a row of distinct integers >= 0.
NO_NUMBERS = (None, 0, "01", {0: 1}, {0, 1}, (0, 0), [1, 0, 1], (-1,), (True,), (False, 1), (0, "1"), (0.0,), ((0,),),
              [[0]], (None,), range(2))
