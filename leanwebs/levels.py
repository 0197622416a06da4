"""Rates, the rows that they give, and level rows."""

from leanwebs.errors import BadRates, BadTable
from leanwebs.given import means_in
from leanwebs.lines import rates_of
from leanwebs.ratios import is_ratio, is_row, minus, product_over, ratio_of, sign_of, sum_of, times

MOST_ROW = 4


def rates_row(spread, rates):
    """Return the row e_0, e_2, .. of the spread at the rates as a tuple of ratios."""
    found = rates_of(rates, spread.many)
    if not all([sign_of(rate) > 0 for rate in found]):
        raise BadRates()
    terms = [[] for _ in range(spread.many // 2 + 1)]
    for lot, told in means_in(spread).items():
        terms[len(lot) // 2].append(product_over([told] + [found[place] for place in lot]))
    return tuple([sum_of(row) for row in terms])


def row_told(row):
    """Return the row of one to four ratios in lowest terms; BadTable unless it is one and begins above 0."""
    if not is_row(row) or not 1 <= len(row) <= MOST_ROW or not all([is_ratio(entry) for entry in row]):
        raise BadTable(-1)
    found = [ratio_of(entry) for entry in row]
    if sign_of(found[0]) <= 0:
        raise BadTable(-1)
    return found


def discriminant(row):
    """Return the number that is not below 0 for a level row of three or of four numbers."""
    if len(row) == 3:
        return minus(times(row[1], row[1]), product_over([(4, 1), row[0], row[2]]))
    a, b, c, d = row
    return sum_of([product_over([(18, 1), a, b, c, d]), product_over([b, b, c, c]),
                   product_over([(-4, 1), a, c, c, c]), product_over([(-4, 1), b, b, b, d]),
                   product_over([(-27, 1), a, a, d, d])])


def is_level(row):
    """Return whether the row is level."""
    found = row_told(row)
    if not all([sign_of(entry) >= 0 for entry in found]):
        return False
    # A number 0 at the end need not be left out: it makes the discriminant a square, or a square times that without it.
    return len(found) < 3 or sign_of(discriminant(found)) >= 0


def level_gaps(row):
    """Return the gaps of the row as a tuple of ratios."""
    found = row_told(row)
    last = len(found) - 1
    gaps = []
    for j in range(1, last):
        factor = ((j + 1) * (last - j + 1), j * (last - j))
        gaps.append(minus(times(found[j], found[j]), product_over([factor, found[j - 1], found[j + 1]])))
    return tuple(gaps)


def common_round(spread):
    """Return whether the spread is level at the rates 1."""
    return is_level(rates_row(spread, [1 for _ in range(spread.many)]))
