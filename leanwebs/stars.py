"""Three means, three-stars and their triangles, doubles of pulls, and four-stars."""

from leanwebs.errors import BadTable
from leanwebs.given import four_places, means_by_lot
from leanwebs.lots import joined
from leanwebs.pieces import need_hanging, need_positive
from leanwebs.ratios import at_most, minus, over, plus, product_over, pull_of, ratio_of, sign_of, sum_of, times


def sums_of_three(m12, m13, m23):
    """Return the list of the four sums e0, e1, e2, e3 of three numbers ([49])."""
    signs = ((1, 1, 1), (1, -1, -1), (-1, 1, -1), (-1, -1, 1))
    return [sum_of([(1, 1), times(a, m12), times(b, m13), times(c, m23)]) for a, b, c in signs]


def sums_above(m12, m13, m23):
    """Return the four sums; BadTable for the first one that is not above 0."""
    found = sums_of_three(ratio_of(m12), ratio_of(m13), ratio_of(m23))
    for at, entry in enumerate(found):
        if sign_of(entry) <= 0:
            raise BadTable(at)
    return found


def triangle_squares(m12, m13, m23):
    """Return the boxes of 12, 13 and 23 of the spread of three places with these means."""
    e0, e1, e2, e3 = sums_above(m12, m13, m23)
    return (over(times(e0, e1), times(e2, e3)), over(times(e0, e2), times(e1, e3)),
            over(times(e0, e3), times(e1, e2)))


def size_of(one):
    """Return the absolute value of the ratio."""
    return times(sign_of(one), one)


def is_above(one, other):
    """Return whether the size of one is greater than that of the other."""
    return not at_most(size_of(one), size_of(other))


def star_squares(m12, m13, m23):
    """Return the squares of the arms of a three-star with these means, or None if there is none."""
    sums_above(m12, m13, m23)
    one, two, three = ratio_of(m12), ratio_of(m13), ratio_of(m23)
    moving = len([number for number in (one, two, three) if sign_of(number) != 0])
    if moving < 2:
        # The arm of a place is needed if one of the two means at this place is not 0.
        return (size_of(plus(one, two)), size_of(plus(one, three)), size_of(plus(two, three)))
    if sign_of(product_over([one, two, three])) <= 0:
        return None
    if not (is_above(one, times(two, three)) and is_above(two, times(one, three))
            and is_above(three, times(one, two))):
        return None
    return (over(times(one, two), three), over(times(one, three), two), over(times(two, three), one))


def star_means(t1, t2, t3):
    """Return the means of 12, 13 and 23 of the three-star with these arms."""
    one, two, three = pull_of(t1), pull_of(t2), pull_of(t3)
    return (times(one, two), times(one, three), times(two, three))


def double_at(one, other, third):
    """Return the double of the triangle's pull at the places of the first two arms."""
    a, b, c = times(one, one), times(other, other), times(third, third)
    above = times(2, times(times(one, other), minus(1, c)))
    return over(above, minus(plus(1, times(a, b)), times(c, plus(a, b))))


def triangle_doubles(t1, t2, t3):
    """Return the doubles of the pulls at 12, 13 and 23 of the triangle of the three-star with these arms."""
    one, two, three = pull_of(t1), pull_of(t2), pull_of(t3)
    return (double_at(one, two, three), double_at(one, three, two), double_at(two, three, one))


def double_pull(pull):
    """Return the double of the pull."""
    t = pull_of(pull)
    return over(times(2, t), plus(1, times(t, t)))


def square_of_double(double):
    """Return (1 + T)/(1 - T) for a double T, the square of the odds of the pull."""
    t = pull_of(double)
    return over(plus(1, t), minus(1, t))


def four_star(web, four):
    """Return the squares of the arms of the four-star for four places, or None if there is none."""
    need_positive(web)
    need_hanging(web)
    a, b, c, d = four_places(four, web.many)
    told = means_by_lot(web)
    ab, ac, ad, bc, bd, cd = [told[joined((u,), (v,))] for u, v in ((a, b), (a, c), (a, d), (b, c), (b, d), (c, d))]
    whole = told[tuple(sorted([a, b, c, d]))]
    if [times(ab, cd), times(ac, bd), times(ad, bc)] != [whole, whole, whole]:
        return None
    return (over(times(ab, ac), bc), over(times(ab, bc), ac), over(times(ac, bc), ab), over(times(ad, bd), ab))
