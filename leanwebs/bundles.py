"""Bundles, their odd ends, and bundle sums."""

from leanwebs.errors import TooMany
from leanwebs.lots import lot_of, subsets
from leanwebs.pieces import parts_of
from leanwebs.ratios import product_over, sum_of
from leanwebs.webs import bundle_numbers

MOST_TIES = 9


def need_few_ties(web):
    """Raise TooMany for a web whose bundles are too many to list."""
    if len(web.ties) > MOST_TIES:
        raise TooMany(len(web.ties), MOST_TIES)


def all_bundles(web):
    """Return the list of all bundles, in order."""
    return subsets(list(range(len(web.ties))))


def parts_by(web, numbers):
    """Return the parting of the places into which the ties of these numbers join them."""
    return parts_of(list(range(web.many)), [web.ends(number) for number in numbers])


def ends_of(web, numbers):
    """Return the lot of the places at which an odd number of ends of these ties lie."""
    found = [0 for _ in range(web.many)]
    for number in numbers:
        u, v = web.ends(number)
        found[u] += 1
        found[v] += 1
    return tuple([place for place in range(web.many) if found[place] & 1])


def picked_product(numbers, inside, outside):
    """Return the product of the entries of inside at the numbers and of those of outside elsewhere."""
    return product_over([inside[k] if k in numbers else outside[k] for k in range(len(inside))])


def bundle_of(web, bundle):
    """Return the bundle as a tuple in ascending order."""
    need_few_ties(web)
    return bundle_numbers(bundle, len(web.ties))


def odd_ends(web, bundle):
    """Return the lot of the odd ends of the bundle."""
    return ends_of(web, bundle_of(web, bundle))


def product_of(web, bundle):
    """Return the product of the pulls of the bundle."""
    return product_over([web.pull(number) for number in bundle_of(web, bundle)])


def is_ringless(web, bundle):
    """Return whether the bundle is without rings."""
    # Exactly the ties that close no ring join two parts that were apart before.
    numbers = bundle_of(web, bundle)
    return len(parts_by(web, numbers)) == web.many - len(numbers)


def bundles_with(web, lot):
    """Return the list of all bundles with these odd ends, in order."""
    need_few_ties(web)
    places = lot_of(lot, web.many)
    return [numbers for numbers in all_bundles(web) if ends_of(web, numbers) == places]


def bundle_sum(web, lot):
    """Return the sum of the products of the pulls of all bundles with these odd ends."""
    return sum_of([product_of(web, numbers) for numbers in bundles_with(web, lot)])
