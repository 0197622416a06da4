"""Partings: all of them, those that hang in a shape, and those of a row without crossing."""

from leanwebs.clusters import is_even_in
from leanwebs.errors import BadLot, BadParting, BadRatio, BadRow, TooMany
from leanwebs.given import with_pulls
from leanwebs.lots import distinct_numbers, lots, parting_of, subsets
from leanwebs.pieces import hangs_within
from leanwebs.ratios import is_row, pull_of, sign_of

MOST_PARTED = 6


def need_few_places(many):
    """Raise TooMany for so many places that their partings are too many to list."""
    if many > MOST_PARTED:
        raise TooMany(many, MOST_PARTED)


def with_place(parting, place):
    """Return the list of the partings with one more place, greater than the others."""
    inside = [parting[:at] + (block + (place,),) + parting[at + 1:] for at, block in enumerate(parting)]
    return inside + [parting + ((place,),)]


def all_partings(places):
    """Return the list of all partings of ascending places, in order."""
    found = [()]
    for place in places:
        found = [grown for parting in found for grown in with_place(parting, place)]
    return sorted(found)


def partings(places):
    """Yield all partings of the places, in order."""
    found = distinct_numbers(places)
    if found is None:
        raise BadLot()
    need_few_places(len(found))
    for parting in all_partings(found):
        yield parting


def any_parting(parting):
    """Return a parting of any places in the form of a parting; BadParting if it is none."""
    if not is_row(parting):
        raise BadParting()
    rows = [distinct_numbers(block) for block in parting]
    if None in rows:
        raise BadParting()
    return parting_of(parting, sorted(set([place for row in rows for place in row])))


def even_in(parting, lot):
    """Return whether the lot is even in the parting."""
    blocks = any_parting(parting)
    found = distinct_numbers(lot)
    if found is None:
        raise BadLot()
    return is_even_in(found, blocks)


def hanging_partings(web):
    """Return the list of all hanging partings, in order."""
    need_few_places(web.many)
    hanging = {lot: True for lot in lots(web.many) if hangs_within(web, lot)}
    return [parting for parting in all_partings(list(range(web.many))) if all([block in hanging for block in parting])]


def has_crossing(parting, row):
    """Return whether two blocks of a parting of the places of the row cross."""
    index = {place: at for at, block in enumerate(parting) for place in block}
    told = [index[place] for place in row]
    fours = [[told[at] for at in chosen] for chosen in subsets(list(range(len(row)))) if len(chosen) == 4]
    return any([a == c and b == d and a != b for a, b, c, d in fours])


def distinct_row(row):
    """Return the row as a tuple in its own order; BadRow unless it is one of distinct integers >= 0."""
    if distinct_numbers(row) is None:
        raise BadRow()
    return tuple([int(place) for place in row])


def smooth_partings(row):
    """Return the list of the partings of the places of the row without crossing, in order."""
    found = distinct_row(row)
    need_few_places(len(found))
    return [parting for parting in all_partings(sorted(found)) if not has_crossing(parting, found)]


def inner_pull(pull):
    """Return the ratio in lowest terms; BadRatio unless it is at least 0 and below 1."""
    found = pull_of(pull)
    if sign_of(found) < 0:
        raise BadRatio()
    return found


def glued_web(web, parting, pull):
    """Return the web of the same shape with the pull on each tie within a block and 0 on the others."""
    blocks = parting_of(parting, tuple(range(web.many)))
    inside = inner_pull(pull)
    index = {place: at for at, block in enumerate(blocks) for place in block}
    return with_pulls(web, [inside if index[u] == index[v] else (0, 1) for u, v, _ in web.ties])
