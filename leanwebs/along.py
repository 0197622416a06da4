"""A mean as a function of the pull of one tie, and cross ratios."""

from leanwebs.errors import BadRow, BadTable, Level
from leanwebs.lots import even_lot_of, joined
from leanwebs.ratios import is_row, minus, over, plus, pull_of, ratio_of, sign_of, times
from leanwebs.sums import mean


def need_row(row, many):
    """Raise BadRow unless row is a tuple or list of so many entries."""
    if not is_row(row) or len(row) != many:
        raise BadRow()


def need_distinct(ratios):
    """Raise BadRow if two of the ratios are equal."""
    if len(set(ratios)) < len(ratios):
        raise BadRow()


def cross_of(ratios):
    """Return the cross ratio of four distinct ratios."""
    one, two, three, four = ratios
    return over(times(minus(one, three), minus(two, four)), times(minus(one, four), minus(two, three)))


class Along:
    """The mean of an even lot as a function of the pull of one tie."""

    def __init__(self, web, number, lot):
        u, v = web.ends(number)
        even = even_lot_of(lot, web.many)
        rest = web.without((number,))
        pair = joined((u,), (v,))
        self.a = mean(rest, even)
        self.b = mean(rest, joined(even, pair))
        self.c = mean(rest, pair)

    def __call__(self, pull):
        return self.value_at(pull_of(pull))

    def value_at(self, t):
        """Return the mean with the tie at the pull t."""
        return over(plus(self.a, times(self.b, t)), plus(1, times(self.c, t)))

    def slope(self, pull):
        """Return how fast the mean rises at this pull."""
        under = plus(1, times(self.c, pull_of(pull)))
        return over(minus(self.b, times(self.a, self.c)), times(under, under))

    @property
    def course(self):
        """What the mean does as the pull grows: "rises", "stays" or "falls"."""
        sign = sign_of(minus(self.b, times(self.a, self.c)))
        if sign == 0:
            return "stays"
        return "rises" if sign == 1 else "falls"

    def cross(self, pulls):
        """Return the cross ratio of the means at four distinct pulls."""
        need_row(pulls, 4)
        found = [pull_of(pull) for pull in pulls]
        need_distinct(found)
        if self.course == "stays":
            raise Level()
        return cross_of([self.value_at(t) for t in found])


def cross_ratio(four):
    """Return the cross ratio of four distinct ratios."""
    need_row(four, 4)
    found = [ratio_of(entry) for entry in four]
    need_distinct(found)
    return cross_of(found)


def told_points(points):
    """Return the x and the y of three points as two lists, or raise what is wrong with them."""
    need_row(points, 3)
    for point in points:
        need_row(point, 2)
    pairs = [(ratio_of(point[0]), ratio_of(point[1])) for point in points]
    xs = [x for x, _ in pairs]
    ys = [y for _, y in pairs]
    need_distinct(xs)
    if len(set(ys)) > 1:
        for at in range(1, 3):
            if ys[at] in ys[:at]:
                raise BadTable(at)
    return (xs, ys)


def fourth(points, pull):
    """Return the value at pull of the function (p + q*x)/(r + s*x) that has the three points."""
    xs, ys = told_points(points)
    x = ratio_of(pull)
    if ys[0] == ys[1]:
        return ys[0]
    if x in xs:
        return ys[xs.index(x)]
    # The value y has to give y1, y2, y3, y the cross ratio of x1, x2, x3, x.
    one, two, three = ys
    cross = cross_of(xs + [x])
    left = times(cross, minus(two, three))
    right = minus(one, three)
    under = minus(left, right)
    if sign_of(under) == 0:
        raise BadTable(-1)
    return over(minus(times(left, one), times(right, two)), under)
