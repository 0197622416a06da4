"""What holds at the rim: sums whose lots lie in a row that is smooth."""

from leanwebs.errors import BadLot, BadParting
from leanwebs.given import row_of
from leanwebs.lots import count_of, parting_of
from leanwebs.partings import has_crossing, inner_pull, smooth_partings
from leanwebs.ratios import sign_of
from leanwebs.webs import Web
from leanwebs.worths import value_of


def rim_values(one, row):
    """Return the list of tuples (parting, value) for the partings of the row without crossing, in order."""
    places = row_of(row, one.many)
    for lot in [one.lot] + [lot for lot, _ in one.rows]:
        if not all([place in places for place in lot]):
            raise BadLot()
    return [(parting, value_of(one, parting)) for parting in smooth_partings(places)]


def breaking_at_rims(one, row):
    """Return the first parting of the row without crossing with a value below 0, or None."""
    for parting, told in rim_values(one, row):
        if sign_of(told) < 0:
            return parting
    return None


def holds_at_rims(one, row):
    """Return whether the sum holds at the rim."""
    return breaking_at_rims(one, row) is None


def is_rim_identity(one, row):
    """Return whether the sum is a rim identity."""
    return all([told == (0, 1) for _, told in rim_values(one, row)])


def rim_web(many, row, parting, pull):
    """Return the web that ties each place of a block to the next place of the same block in the row."""
    count = count_of(many, Web.most_places)
    places = row_of(row, count)
    blocks = parting_of(parting, places)
    if has_crossing(blocks, places):
        raise BadParting()
    inside = inner_pull(pull)
    ordered = [[place for place in places if place in block] for block in blocks]
    return Web(count, [(u, v, inside) for block in ordered for u, v in zip(block, block[1:])])
