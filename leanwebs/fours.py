"""The numbers of four places: whole, products, links and knot."""

from leanwebs.along import need_row
from leanwebs.errors import BadPlace, BadTable
from leanwebs.given import four_places, means_by_lot, row_of
from leanwebs.lots import is_place
from leanwebs.ratios import at_most, is_ratio, is_row, minus, over, plus, product_over, ratio_of, times

PAIRS = ((0, 1), (0, 2), (0, 3), (1, 2), (1, 3), (2, 3))


def seven_of(seven):
    """Return the seven ratios in lowest terms, or raise what is wrong with them."""
    if not is_row(seven) or len(seven) != 7:
        raise BadTable(-1)
    for at, entry in enumerate(seven):
        if not is_ratio(entry):
            raise BadTable(at)
    return tuple([ratio_of(entry) for entry in seven])


def link_of(whole, own, one, other):
    """Return half of the whole and of the link's own product less the two other products."""
    return over(minus(plus(whole, own), plus(one, other)), 2)


class Four:
    """The means of four places a, b, c, d, and what they make: products, links and knot."""

    def __init__(self, seven):
        self.means = seven_of(seven)
        ab, ac, ad, bc, bd, cd, whole = self.means
        p = times(ab, cd)
        q = times(ac, bd)
        r = times(ad, bc)
        self.whole = whole
        self.products = (p, q, r)
        self.links = (link_of(whole, p, q, r), link_of(whole, q, p, r), link_of(whole, r, p, q))
        self.knot = over(minus(plus(p, plus(q, r)), whole), 2)

    def by_way(self, k):
        """Return the product of the three means of pairs that hold place number k of the four."""
        if not is_place(k, 4):
            raise BadPlace()
        return product_over([told for pair, told in zip(PAIRS, self.means) if k in pair])

    def swapped(self, order):
        """Return the Four in which place number i is the old place number order[i]."""
        need_row(order, 4)
        old = row_of(order, 4)
        pairs = [tuple(sorted([old[i], old[j]])) for i, j in PAIRS]
        return Four([self.means[PAIRS.index(pair)] for pair in pairs] + [self.whole])


def lots_of_four(four):
    """Return the list of the seven lots whose means a Four of these places has."""
    return [tuple(sorted([four[i], four[j]])) for i, j in PAIRS] + [tuple(sorted(four))]


def four_of(web, four):
    """Return the Four of four places of the web."""
    wanted = lots_of_four(four_places(four, web.many))
    told = means_by_lot(web)
    return Four([told[lot] for lot in wanted])


def four_in(spread, four):
    """Return the Four of four places of the spread."""
    return Four([spread.mean(lot) for lot in lots_of_four(four_places(four, spread.many))])


def greatest_product(four):
    """Return the greatest of the three products."""
    greatest = four.products[0]
    for one in four.products:
        if at_most(greatest, one):
            greatest = one
    return greatest


def is_cut_two(four):
    """Return whether the whole is the greatest product."""
    return four.whole == greatest_product(four)
