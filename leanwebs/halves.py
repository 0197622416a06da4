"""Halvings of the places in two lots, each told by the half that has not place 0."""

from leanwebs.given import need_small
from leanwebs.lots import even_lot_of, lots
from leanwebs.pieces import hangs_within
from leanwebs.webs import tie_number


def all_halves(many):
    """Return the list of the halves that tell the halvings of so many places, in order."""
    return [lot for lot in lots(many) if lot and 0 not in lot]


def is_odd_for(half, lot):
    """Return whether each half has oddly many places of the even lot."""
    return (len([place for place in half if place in lot]) & 1) == 1


def hanging_halves(web):
    """Return the list of the hanging halvings of a web of any size, in order."""
    places = list(range(web.many))
    return [half for half in all_halves(web.many) if hangs_within(web, half)
            and hangs_within(web, [place for place in places if place not in half])]


def halvings(web):
    """Return the list of the hanging halvings, in order."""
    need_small(web)
    return hanging_halves(web)


def first_half(halves):
    """Return the first one of the halves, or None."""
    return halves[0] if halves else None


def odd_halving(web, lot, other):
    """Return the first hanging halving that is odd for both lots, or None."""
    need_small(web)
    one = even_lot_of(lot, web.many)
    two = even_lot_of(other, web.many)
    return first_half([half for half in hanging_halves(web) if is_odd_for(half, one) and is_odd_for(half, two)])


def tie_halving(web, number, lot):
    """Return the first halving between the ends of the tie that hangs without it and is odd for the lot, or None."""
    need_small(web)
    u, v = web.ends(tie_number(number, len(web.ties)))
    even = even_lot_of(lot, web.many)
    rest = web.without((number,))
    return first_half([half for half in hanging_halves(rest) if is_odd_for(half, even)
                       and (u in half) != (v in half)])
