"""Four places of which one is the hinge: by way of it, parting by it, and the lean gap."""

from leanwebs.along import need_row
from leanwebs.fours import four_of
from leanwebs.given import pieces_without, row_of
from leanwebs.ratios import minus, sum_of, times


def hinged(web, hinge, three):
    """Return the hinge and the three places as a tuple of four; BadRow unless they are distinct places."""
    need_row(three, 3)
    return row_of([hinge] + list(three), web.many)


def by_way_of(web, hinge, three):
    """Return the product of the three means of the hinge with each of the three places."""
    return four_of(web, hinged(web, hinge, three)).by_way(0)


def parts_three(web, hinge, three):
    """Return whether the three are not all in one piece when the hinge and its ties are taken out."""
    four = hinged(web, hinge, three)
    return not [block for block in pieces_without(web, four[0]) if all([place in block for place in four[1:]])]


def lean_gap(web, hinge, three):
    """Return the lean gap of the three places with the hinge as the floor."""
    four = four_of(web, hinged(web, hinge, three))
    # With the floor f, <{u, v, w}> is the mean of all four, and <{u}> that of f and u.
    p, q, r = four.products
    return minus(sum_of([four.whole, times(2, four.by_way(0))]), sum_of([p, q, r]))
