"""What the means at the ties of a plain shape tell about the pulls."""

from leanwebs.errors import BadTie
from leanwebs.lots import joined
from leanwebs.odds import need_like_shapes
from leanwebs.ratios import minus, sign_of
from leanwebs.sums import mean


def need_plain(web):
    """Raise BadTie for the first tie that is a loop or has the two ends of an earlier tie."""
    earlier = []
    for number, (u, v, _) in enumerate(web.ties):
        pair = joined((u,), (v,))
        if not pair or pair in earlier:
            raise BadTie(number)
        earlier.append(pair)


def mean_at(web, number):
    """Return the mean of the two ends of the tie."""
    u, v = web.ends(number)
    return mean(web, (u, v))


def both_greater(web, other):
    """Return the first tie whose pull and whose mean are both greater in the same one of the webs, or None."""
    need_like_shapes(web, other)
    need_plain(web)
    for number in range(len(web.ties)):
        sign = sign_of(minus(web.pull(number), other.pull(number)))
        if sign != 0 and sign == sign_of(minus(mean_at(web, number), mean_at(other, number))):
            return number
    return None


def told_by_ties(web, other):
    """Return whether the two ends of each tie have the same mean in both webs."""
    need_like_shapes(web, other)
    need_plain(web)
    return all([mean_at(web, number) == mean_at(other, number) for number in range(len(web.ties))])
