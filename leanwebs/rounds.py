"""Round spreads, four ratios that close, and what is round at all sizes of pulls."""

from leanwebs.errors import BadCount, BadRatio, BadTable, TooMany
from leanwebs.fours import four_in
from leanwebs.given import means_in, with_pulls
from leanwebs.ratios import at_most, minus, plus, product_over, ratio_of, sign_of, times

MOST_ROUND = 4
TINY = (1, 1000000)
LARGE = (1, 2)


def ratio_not_below(number):
    """Return the ratio in lowest terms; BadRatio unless it is one not below 0."""
    found = ratio_of(number)
    if sign_of(found) < 0:
        raise BadRatio()
    return found


def four_not_below(m, p, q, r):
    """Return four ratios in lowest terms; BadRatio unless each is one not below 0."""
    return (ratio_not_below(m), ratio_not_below(p), ratio_not_below(q), ratio_not_below(r))


def gap_of(m, p, q, r):
    """Return the number k = q + r - p - m of four ratios."""
    return minus(plus(q, r), plus(p, m))


def roots_reach(m, p, q, r):
    """Return whether the size of q + r - p - m is at most twice the roots of q*r and of p*m together."""
    y = product_over([(4, 1), q, r])
    z = product_over([(4, 1), p, m])
    k = gap_of(m, p, q, r)
    rest = minus(times(k, k), plus(y, z))
    return sign_of(rest) <= 0 or at_most(times(rest, rest), product_over([(4, 1), y, z]))


def closes(m, p, q, r):
    """Return whether the root of each of the four is at most the sum of the roots of the others."""
    one, two, three, four = four_not_below(m, p, q, r)
    return roots_reach(one, two, three, four)


def one_closes(m, p, q, r):
    """Return whether the root of m is at most the sum of the roots of p, q and r."""
    one, two, three, four = four_not_below(m, p, q, r)
    return at_most(one, two) or sign_of(gap_of(one, two, three, four)) >= 0 or roots_reach(one, two, three, four)


def below_zero(told):
    """Return the indexes, in the order of even lots, of the means below 0, told being the means by lot."""
    return [at for at, number in enumerate(told.values()) if sign_of(number) < 0]


def is_round(spread):
    """Return whether a spread of at most four places is round."""
    if spread.many > MOST_ROUND:
        raise TooMany(spread.many, MOST_ROUND)
    if below_zero(means_in(spread)):
        return False
    if spread.many < MOST_ROUND:
        return True
    four = four_in(spread, (0, 1, 2, 3))
    p, q, r = four.products
    return closes(four.whole, p, q, r)


def all_rates(spread):
    """Return whether a spread of four places is level at all rates."""
    if spread.many != MOST_ROUND:
        raise BadCount()
    below = below_zero(means_in(spread))
    if below:
        raise BadTable(below[0])
    four = four_in(spread, (0, 1, 2, 3))
    p, q, r = four.products
    return one_closes(four.whole, p, q, r)


def round_for_all(web):
    """Return whether no pull of the merged web is below 0."""
    return all([sign_of(t) >= 0 for _, _, t in web.merged().ties])


def unround_sizes(web):
    """Return the merged web with sizes of pulls at which a mean of two places is below 0, or None."""
    merged = web.merged()
    signs = [sign_of(t) for _, _, t in merged.ties]
    if -1 not in signs:
        return None
    # Each way between the ends of the first such tie but the tie itself has two tiny pulls or more, so that all these
    # ways together cannot raise the mean of its ends to 0.
    first = signs.index(-1)
    sizes = [LARGE if number == first else TINY for number in range(len(signs))]
    return with_pulls(merged, [times(sign, size) for sign, size in zip(signs, sizes)])
