"""Block weights of a lot, and the hosts of a parting."""

from leanwebs.clusters import is_even_in
from leanwebs.doubled import weights_seen
from leanwebs.errors import BadLot, BadParting, OddLot
from leanwebs.given import need_small
from leanwebs.lots import distinct_numbers, lot_of, lots, parting_of
from leanwebs.pieces import parts_of
from leanwebs.ratios import is_row, sum_of


def block_weights(web, lot):
    """Return the list of tuples (parting of the lot, weight) with weights above 0, in order."""
    return weights_seen(web, lot, lot)


def blocks_of(parting, many):
    """Return a parting of some of so many places in the form of a parting; BadParting if it is none."""
    if not is_row(parting):
        raise BadParting()
    rows = [distinct_numbers(block) for block in parting]
    if None in rows:
        raise BadParting()
    places = [place for row in rows for place in row]
    if len(set(places)) < len(places) or not all([place < many for place in places]):
        raise BadParting()
    return parting_of(parting, places)


def hangs_by_pulls(web, places):
    """Return whether the places, in ascending order, hang together by ties with both ends among them."""
    return len(parts_of(places, [(u, v) for u, v, (p, _) in web.ties if p != 0 and u in places and v in places])) == 1


def fits_beside(host, block, blocks, chosen):
    """Return whether the host holds its block and no place of another block or of a host chosen before."""
    if not all([place in host for place in block]):
        return False
    taken = list(chosen) + [other for other in blocks if other != block]
    return not [place for lot in taken for place in lot if place in host]


def hosts(web, parting):
    """Return hosts of the blocks of the parting, or None if there are none."""
    need_small(web)
    blocks = blocks_of(parting, web.many)
    hanging = [lot for lot in lots(web.many) if hangs_by_pulls(web, lot)]
    found = [()]
    for block in blocks:
        found = [chosen + (host,) for chosen in found for host in hanging if fits_beside(host, block, blocks, chosen)]
    return found[0] if found else None


def product_from(web, lot, part):
    """Return the sum of the block weights of the lot over the partings in which the part is even."""
    weights = block_weights(web, lot)
    places = lot_of(lot, web.many)
    within = lot_of(part, web.many)
    if not all([place in places for place in within]):
        raise BadLot()
    if len(within) & 1:
        raise OddLot()
    return sum_of([weight for parting, weight in weights if is_even_in(within, parting)])
