"""Classes of bundles by cuts of faces, class sums, and sums and means of a web by its contrary twins."""

from leanwebs.bundles import all_bundles, bundle_of, bundles_with, ends_of, need_few_ties, product_of
from leanwebs.lots import even_lot_of, joined, subsets
from leanwebs.ratios import over, sum_of, times
from leanwebs.twins import contrary_total, twin_factor


def cuts_of(laying):
    """Return the list of all cuts of faces."""
    # A lot and the lot of all other faces have the same cut, so that face 0 need not be in a lot.
    return [laying.cut(lot) for lot in subsets(list(range(1, len(laying.faces))))]


def class_of(laying, numbers):
    """Return the list of the bundles of the class of a bundle."""
    return [joined(numbers, cut) for cut in cuts_of(laying)]


def same_class(laying, bundle, other):
    """Return whether the two bundles are of one class."""
    one = bundle_of(laying.web, bundle)
    two = bundle_of(laying.web, other)
    return joined(one, two) in cuts_of(laying)


def class_sum(laying, bundle):
    """Return the sum of the products of the pulls of all bundles of the class of the bundle."""
    numbers = bundle_of(laying.web, bundle)
    return sum_of([product_of(laying.web, found) for found in class_of(laying, numbers)])


def classes(laying):
    """Return the list of the first bundles of all classes of even bundles, in order."""
    need_few_ties(laying.web)
    cuts = cuts_of(laying)
    firsts = []
    known = {}
    for numbers in all_bundles(laying.web):
        if numbers not in known and not ends_of(laying.web, numbers):
            firsts.append(numbers)
            for cut in cuts:
                known[joined(numbers, cut)] = True
    return firsts


def twins_sum(laying, numbers):
    """Return the sum of the sums of the twins contrary on h + b for one h of each class, b being the bundle."""
    return sum_of([contrary_total(laying, joined(first, numbers)) for first in classes(laying)])


def total_by_twins(laying):
    """Return the sum of the web, told by its contrary twins."""
    need_few_ties(laying.web)
    return times(twin_factor(laying), twins_sum(laying, ()))


def mean_by_twins(laying, lot):
    """Return the mean of an even lot of the web, told by its contrary twins."""
    need_few_ties(laying.web)
    even = even_lot_of(lot, laying.web.many)
    numbers = bundles_with(laying.web, even)[0]
    return over(twins_sum(laying, numbers), twins_sum(laying, ()))
