"""Parts laid on a row of places of a web, and what they do to the means there."""

from leanwebs.errors import BadCount, BadRow
from leanwebs.given import means_by_lot, row_of, two_places
from leanwebs.lots import even_lots
from leanwebs.ratios import is_integer
from leanwebs.sums import mean
from leanwebs.webs import Web


def as_tie(web, u, v):
    """Return the pull of the one tie that does what the web does between two places."""
    return mean(web, two_places(u, v, web.many))


def laid(web, part, places):
    """Return the web with the part laid on a row of its places."""
    row = row_of(places, web.many)
    if len(row) > part.many:
        raise BadRow()
    many = web.many + part.many - len(row)
    moved = row + tuple(range(web.many, many))
    return Web(many, web.ties + tuple([(moved[u], moved[v], t) for u, v, t in part.ties]))


def same_rim(one, other, many):
    """Return whether all even lots of the places below many have the same means in both webs."""
    if not is_integer(many) or not 1 <= many <= min(one.many, other.many):
        raise BadCount()
    left = means_by_lot(one)
    right = means_by_lot(other)
    return all([left[lot] == right[lot] for lot in even_lots(many)])
