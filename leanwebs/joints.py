"""Joint chances of sayings, cluster bundles and inner bundles, and what is made from what."""

from leanwebs.bundles import all_bundles, bundle_of, bundle_sum, ends_of, need_few_ties, parts_by, picked_product
from leanwebs.errors import BadLot
from leanwebs.lots import even_lot_of, saying_of, sayings, subsets
from leanwebs.pieces import need_not_below
from leanwebs.ratios import minus, over, plus, times
from leanwebs.sums import total


def need_joints(web):
    """Raise what keeps a web from having joint chances."""
    need_few_ties(web)
    need_not_below(web)


def pulls_of(web):
    """Return the list of the pulls of all ties."""
    return [pull for _, _, pull in web.ties]


def from_one(ratios):
    """Return the list of 1 less each of the ratios."""
    return [minus(1, ratio) for ratio in ratios]


def unlike_ties(web, said):
    """Return the list of the ties whose ends say unlike things."""
    return [number for number, (u, v, _) in enumerate(web.ties) if said[u] != said[v]]


def kept_chances(web, keep):
    """Return the list of (bundle, chance) with chances above 0, if each tie is kept by itself with its chance."""
    drop = from_one(keep)
    rows = [(numbers, picked_product(numbers, keep, drop)) for numbers in all_bundles(web)]
    return [(numbers, chance) for numbers, chance in rows if chance != (0, 1)]


def saying_and_clusters(web, saying, bundle):
    """Return the joint chance of the saying and the cluster bundle."""
    need_joints(web)
    said = saying_of(saying, web.many)
    numbers = bundle_of(web, bundle)
    if any([number in numbers for number in unlike_ties(web, said)]):
        return (0, 1)
    pulls = pulls_of(web)
    doubled = [times(2, pull) for pull in pulls]
    return over(picked_product(numbers, doubled, from_one(pulls)), total(web))


def inner_and_clusters(web, inner, bundle, *, lot=()):
    """Return the joint chance of the bundle inner, by inner chances of the lot, and the cluster bundle."""
    need_joints(web)
    part = bundle_of(web, inner)
    numbers = bundle_of(web, bundle)
    even = even_lot_of(lot, web.many)
    whole = bundle_sum(web, even)
    if whole == (0, 1):
        raise BadLot()
    if ends_of(web, part) != even or not all([number in numbers for number in part]):
        return (0, 1)
    pulls = pulls_of(web)
    return over(picked_product(numbers, pulls, from_one(pulls)), whole)


def clusters_from_saying(web, saying):
    """Return the list of the cluster bundles made from the saying, with their chances."""
    need_joints(web)
    unlike = unlike_ties(web, saying_of(saying, web.many))
    alike_chances = [over(times(2, pull), plus(1, pull)) for pull in pulls_of(web)]
    keep = [(0, 1) if number in unlike else chance for number, chance in enumerate(alike_chances)]
    return kept_chances(web, keep)


def sayings_from_clusters(web, bundle):
    """Return the list of the sayings made from the cluster bundle, with their chances."""
    need_joints(web)
    numbers = bundle_of(web, bundle)
    chance = (1, 1 << len(parts_by(web, numbers)))
    alike = [said for said in sayings(web.many)
             if not any([number in numbers for number in unlike_ties(web, said)])]
    return [(said, chance) for said in alike]


def clusters_from_inner(web, inner):
    """Return the list of the cluster bundles made from the bundle inner, with their chances."""
    need_joints(web)
    part = bundle_of(web, inner)
    return kept_chances(web, [(1, 1) if number in part else pull for number, pull in enumerate(pulls_of(web))])


def inners_from_clusters(web, bundle, *, lot=()):
    """Return the list of the bundles with odd ends lot made from the cluster bundle, with their chances."""
    need_joints(web)
    numbers = bundle_of(web, bundle)
    even = even_lot_of(lot, web.many)
    found = [part for part in subsets(numbers) if ends_of(web, part) == even]
    if not found:
        raise BadLot()
    return [(part, (1, len(found))) for part in found]
