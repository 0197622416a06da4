"""Leaving out places: when the others form a web by themselves."""

from leanwebs.along import need_row
from leanwebs.errors import BadLot, BadPlace, TooMany
from leanwebs.given import place_of, with_pulls
from leanwebs.lots import lot_of, sayings
from leanwebs.pieces import parts_of
from leanwebs.ratios import product_over, pull_of, sum_of, times
from leanwebs.spreads import MOST_SPREAD
from leanwebs.webs import Web

MOST_ARMS = 2
MOST_TOUCHED = 3
# The pulls of nearly a star around a piece, by the number of ends of a tie in the piece.
STAR_PULLS = ((1, 1000000000), (1, 2), (999999999, 1000000000))


def arms(web, place):
    """Return the arms of the place as a tuple of tuples (other place, pull)."""
    middle = place_of(place, web.many)
    found = [(u + v - middle, t) for u, v, t in web.merged().ties if middle in (u, v)]
    return tuple(sorted(found))


def left_web(web, place):
    """Return the web that is left when the place, of at most two arms, is left out."""
    gone = place_of(place, web.many)
    if web.many == 1:
        raise BadPlace()
    found = arms(web, gone)
    if len(found) > MOST_ARMS:
        raise TooMany(len(found), MOST_ARMS)
    ties = [(u, v, t) for u, v, t in web.ties if gone not in (u, v)]
    if len(found) == 2:
        ties.append((found[0][0], found[1][0], times(found[0][1], found[1][1])))
    moved = [place if place < gone else place - 1 for place in range(web.many)]
    return Web(web.many - 1, [(moved[u], moved[v], t) for u, v, t in ties])


def four_sum(pulls, said):
    """Return N at the saying for four pulls ([47])."""
    signed = [times(t, entry) for t, entry in zip(pulls, said)]
    pairs = [times(signed[i], signed[j]) for j in range(4) for i in range(j)]
    return sum_of([(1, 1), product_over(signed)] + pairs)


def gap(pulls):
    """Return the even product and the odd product of four pulls."""
    need_row(pulls, 4)
    found = [pull_of(pull) for pull in pulls]
    told = [(said.count(-1), four_sum(found, said)) for said in sayings(4) if said[0] == 1]
    even = product_over([number for count, number in told if not count & 1])
    odd = product_over([number for count, number in told if count & 1])
    return (even, odd)


def touched(web, lot):
    """Return the pieces of the lot as a tuple of tuples (piece, the places that it touches)."""
    places = lot_of(lot, web.many)
    found = []
    for piece in parts_of(places, [(u, v) for u, v, _ in web.ties if u in places and v in places]):
        met = [place for u, v, _ in web.ties if u in piece or v in piece for place in (u, v) if place not in piece]
        found.append((piece, tuple(sorted(set(met)))))
    return tuple(found)


def always_webs(web, lot):
    """Return whether each piece of the lot touches at most three places."""
    return all([len(met) <= MOST_TOUCHED for _, met in touched(web, lot)])


def spoiling_pulls(web, lot):
    """Return a positive web of the shape whose spread, left out the lot, is no web's; None if there is none."""
    if web.many > MOST_SPREAD:
        raise TooMany(web.many, MOST_SPREAD)
    if len(lot_of(lot, web.many)) == web.many:
        raise BadLot()
    for piece, met in touched(web, lot):
        if len(met) > MOST_TOUCHED:
            # A star with four arms or more, its middle left out, is no web's; with these pulls the piece is so nearly
            # one place, and all that is not at it so nearly without ties, that the boxes still differ.
            inside = [len([place for place in (u, v) if place in piece]) for u, v, _ in web.ties]
            return with_pulls(web, [STAR_PULLS[count] for count in inside])
    return None
