"""Webs: places, and ties with pulls between them."""

from leanwebs.errors import BadBundle, BadCount, BadPull, BadTie, TooMany
from leanwebs.lots import count_of, distinct_numbers, is_place, lot_of, parting_of
from leanwebs.ratios import is_integer, is_ratio, is_row, lowest, ratio_of


def tie_of(number, tie, many):
    """Return the tie with its pull in lowest terms, or raise what is wrong with it."""
    if not is_row(tie) or len(tie) != 3:
        raise BadTie(number)
    u, v, t = tie
    if not is_place(u, many) or not is_place(v, many) or not is_ratio(t):
        raise BadTie(number)
    p, q = ratio_of(t)
    if abs(p) >= q:
        raise BadPull(number)
    return (int(u), int(v), (p, q))


def ties_of(ties, many, most):
    """Return the ties as a tuple of at most so many, or raise what is wrong with them."""
    if not is_row(ties):
        raise BadTie(-1)
    if len(ties) > most:
        raise TooMany(len(ties), most)
    return tuple([tie_of(number, tie, many) for number, tie in enumerate(ties)])


def tie_number(number, many):
    """Return the number of one of so many ties; BadTie if it is none."""
    if not is_integer(number):
        raise BadTie(number)
    if not 0 <= number < many:
        raise BadTie(int(number))
    return int(number)


def bundle_numbers(bundle, many):
    """Return the bundle of some of so many ties as a tuple in ascending order."""
    found = distinct_numbers(bundle)
    if found is None or not all([number < many for number in found]):
        raise BadBundle()
    return found


def merged_pull(one, other):
    """Return the pull of one tie that does what two ties of the same places do."""
    p, q = one
    r, s = other
    return lowest(p * s + r * q, q * s + p * r)


class Web:
    """A web of places 0 to many - 1; a tie is a tuple (u, v, pull)."""

    most_places = 10
    most_ties = 10

    def __init__(self, many, ties):
        self.many = count_of(many, self.most_places)
        self.ties = ties_of(ties, self.many, self.most_ties)

    @property
    def shape(self):
        """The number of places and the ends of all ties."""
        return (self.many, tuple([(u, v) for u, v, _ in self.ties]))

    @property
    def positive(self):
        """Whether all pulls are above 0."""
        return all([t[0] > 0 for _, _, t in self.ties])

    def pull(self, number):
        """Return the pull of the tie."""
        return self.ties[tie_number(number, len(self.ties))][2]

    def ends(self, number):
        """Return the ends of the tie."""
        u, v, _ = self.ties[tie_number(number, len(self.ties))]
        return (u, v)

    def with_pull(self, number, pull):
        """Return the web in which this tie has the other pull."""
        changed = tie_number(number, len(self.ties))
        u, v = self.ends(changed)
        return Web(self.many, self.ties[:changed] + ((u, v, pull),) + self.ties[changed + 1:])

    def with_tie(self, u, v, pull):
        """Return the web with one more tie, numbered last."""
        return Web(self.many, self.ties + ((u, v, pull),))

    def without(self, bundle):
        """Return the web without the ties of the bundle."""
        numbers = bundle_numbers(bundle, len(self.ties))
        return Web(self.many, [tie for number, tie in enumerate(self.ties) if number not in numbers])

    def only(self, bundle):
        """Return the web with the ties of the bundle alone."""
        numbers = bundle_numbers(bundle, len(self.ties))
        return Web(self.many, [self.ties[number] for number in numbers])

    def contrary(self, bundle):
        """Return the web in which the pulls of the bundle are multiplied by -1."""
        numbers = bundle_numbers(bundle, len(self.ties))
        signs = [-1 if number in numbers else 1 for number in range(len(self.ties))]
        return Web(self.many, [(u, v, (sign * p, q)) for sign, (u, v, (p, q)) in zip(signs, self.ties)])

    def turned(self, lot):
        """Return the web that is contrary on the ties with exactly one end in the lot."""
        places = lot_of(lot, self.many)
        return self.contrary([k for k, (u, v, _) in enumerate(self.ties) if (u in places) != (v in places)])

    def glued(self, parting):
        """Return the web in which the block with index i of the parting is place i."""
        blocks = parting_of(parting, tuple(range(self.many)))
        index = {place: at for at, block in enumerate(blocks) for place in block}
        return Web(len(blocks), [(index[u], index[v], t) for u, v, t in self.ties])

    def merged(self):
        """Return the web with one tie, of a pull other than 0, for each two places that it joins."""
        pulls = {}
        for u, v, t in self.ties:
            if u != v:
                pair = (min(u, v), max(u, v))
                pulls[pair] = merged_pull(pulls.get(pair, (0, 1)), t)
        return Web(self.many, [(u, v, pulls[(u, v)]) for u, v in sorted(pulls) if pulls[(u, v)] != (0, 1)])

    @classmethod
    def line(cls, *pulls):
        """Return the web with tie i from i to i + 1."""
        return cls(len(pulls) + 1, [(at, at + 1, t) for at, t in enumerate(pulls)])

    @classmethod
    def ring(cls, *pulls):
        """Return the web with tie i from i to i + 1, the last one back to 0."""
        many = len(pulls)
        if many < 2:
            raise BadCount()
        return cls(many, [(at, at + 1 if at + 1 < many else 0, t) for at, t in enumerate(pulls)])

    @classmethod
    def star(cls, *pulls):
        """Return the web with tie i from 0 to i + 1."""
        return cls(len(pulls) + 1, [(0, at + 1, t) for at, t in enumerate(pulls)])

    def __add__(self, other):
        if not isinstance(other, Web):
            return NotImplemented
        moved = [(u + self.many, v + self.many, t) for u, v, t in other.ties]
        return Web(self.many + other.many, self.ties + tuple(moved))

    def __neg__(self):
        return Web(self.many, [(u, v, (-p, q)) for u, v, (p, q) in self.ties])

    def __eq__(self, other):
        return isinstance(other, Web) and self.many == other.many and self.ties == other.ties

    def __len__(self):
        return len(self.ties)

    def __getitem__(self, at):
        return self.ties[tie_number(at, len(self.ties))]

    def __iter__(self):
        return iter(self.ties)

    def __contains__(self, x):
        return x in self.ties
