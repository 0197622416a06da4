"""Clusters, bundles that fit, cluster weights and chances."""

from leanwebs.bundles import all_bundles, bundle_of, need_few_ties, parts_by, picked_product
from leanwebs.lots import lot_of, sign_at
from leanwebs.ratios import minus, over, sign_of, sum_of, times


def is_even_in(lot, parting):
    """Return whether each block of the parting contains an even number of places of the lot."""
    return all([not len([place for place in block if place in lot]) & 1 for block in parting])


def clusters(web, bundle):
    """Return the parting into the clusters of the bundle."""
    return parts_by(web, bundle_of(web, bundle))


def fitting_saying(web, numbers):
    """Return a saying with ends alike where the pull is not below 0 and unlike where it is, None if there is none."""
    said = [1 for _ in range(web.many)]
    part = list(range(web.many))
    for number in numbers:
        u, v = web.ends(number)
        wanted = -1 if sign_of(web.pull(number)) < 0 else 1
        turn = said[u] * said[v] * wanted
        if part[u] == part[v] and turn == -1:
            return None
        old = part[v]
        moved = [place for place in range(web.many) if part[place] == old and part[u] != old]
        for place in moved:
            part[place] = part[u]
            said[place] = said[place] * turn
    return tuple(said)


def fits(web, bundle):
    """Return whether the bundle fits."""
    return fitting_saying(web, bundle_of(web, bundle)) is not None


def sign_given(web, bundle, lot):
    """Return the sign that the bundle gives the lot, 0 if it gives none."""
    numbers = bundle_of(web, bundle)
    places = lot_of(lot, web.many)
    said = fitting_saying(web, numbers)
    if said is None or not is_even_in(places, parts_by(web, numbers)):
        return 0
    return sign_at(said, places)


def size_of(pull):
    """Return the absolute value of a pull."""
    return (abs(pull[0]), pull[1])


def cluster_weight(web, bundle):
    """Return the cluster weight of the bundle."""
    numbers = bundle_of(web, bundle)
    if fitting_saying(web, numbers) is None:
        return (0, 1)
    sizes = [size_of(pull) for _, _, pull in web.ties]
    inside = [times(2, size) for size in sizes]
    outside = [minus(1, size) for size in sizes]
    return times(1 << len(parts_by(web, numbers)), picked_product(numbers, inside, outside))


def cluster_chances(web):
    """Return the list of tuples (bundle, cluster chance) for the chances above 0, bundles in order."""
    need_few_ties(web)
    rows = [(numbers, cluster_weight(web, numbers)) for numbers in all_bundles(web)]
    whole = sum_of([weight for _, weight in rows])
    return [(numbers, over(weight, whole)) for numbers, weight in rows if weight != (0, 1)]
