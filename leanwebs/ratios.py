"""Ratios: tuples (p, q) of two integers, q >= 1, in lowest terms."""

from math import gcd, lcm

from leanwebs.errors import BadRatio


def is_integer(value):
    """Return whether value is an integer; True and False are none."""
    return isinstance(value, int) and not isinstance(value, bool)


def is_row(value):
    """Return whether value is a tuple or a list."""
    return isinstance(value, (tuple, list))


def is_ratio(value):
    """Return whether value is a ratio as an argument may be one."""
    if is_integer(value):
        return True
    if not is_row(value) or len(value) != 2:
        return False
    return is_integer(value[0]) and is_integer(value[1]) and value[1] >= 1


def lowest(top, bottom):
    """Return top/bottom in lowest terms; bottom is an integer >= 1."""
    common = gcd(top, bottom)
    return (top // common, bottom // common)


def ratio_of(number):
    """Return the ratio in lowest terms."""
    if not is_ratio(number):
        raise BadRatio()
    if is_integer(number):
        return (int(number), 1)
    return lowest(int(number[0]), int(number[1]))


def pull_of(number):
    """Return the ratio in lowest terms; BadRatio unless it is strictly between -1 and 1."""
    p, q = ratio_of(number)
    if abs(p) >= q:
        raise BadRatio()
    return (p, q)


def plus(one, other):
    """Return one + other."""
    p, q = ratio_of(one)
    r, s = ratio_of(other)
    return lowest(p * s + r * q, q * s)


def minus(one, other):
    """Return one - other."""
    p, q = ratio_of(one)
    r, s = ratio_of(other)
    return lowest(p * s - r * q, q * s)


def times(one, other):
    """Return one * other."""
    p, q = ratio_of(one)
    r, s = ratio_of(other)
    return lowest(p * r, q * s)


def over(one, other):
    """Return one / other; BadRatio if other is 0."""
    p, q = ratio_of(one)
    r, s = ratio_of(other)
    if r == 0:
        raise BadRatio()
    if r < 0:
        return lowest(-p * s, -q * r)
    return lowest(p * s, q * r)


def sign_of(one):
    """Return -1, 0 or 1 as the ratio is below, equal to or above 0."""
    top = ratio_of(one)[0]
    if top == 0:
        return 0
    return 1 if top > 0 else -1


def at_most(one, other):
    """Return whether one <= other."""
    p, q = ratio_of(one)
    r, s = ratio_of(other)
    return p * s <= r * q


def odds_of(one):
    """Return the odds (1 + x)/(1 - x) of a ratio x strictly between -1 and 1."""
    p, q = pull_of(one)
    return lowest(q + p, q - p)


def over_common(ratios):
    """Return the numerators of the ratios over a common denominator, and this denominator."""
    bottom = 1
    for ratio in ratios:
        bottom = lcm(bottom, ratio[1])
    return ([p * (bottom // q) for p, q in ratios], bottom)


def sum_of(ratios):
    """Return the sum of a list of ratios in lowest terms."""
    tops, bottom = over_common(ratios)
    return lowest(sum(tops), bottom)


def product_over(ratios):
    """Return the product of a list of ratios, 1 if it is empty."""
    top = 1
    bottom = 1
    for p, q in ratios:
        top = top * p
        bottom = bottom * q
    return lowest(top, bottom)
