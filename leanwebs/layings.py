"""Layings of webs on surfaces: ring orders, faces, handles, cuts of faces, and the twin."""

from leanwebs.errors import BadLaying, BadLot, BadPlace, NoTie
from leanwebs.lots import distinct_numbers, is_place
from leanwebs.pieces import need_hanging, need_positive
from leanwebs.ratios import is_row, lowest
from leanwebs.webs import Web, tie_number


def twin_of(pull):
    """Return (1 - t)/(1 + t) for a pull t in lowest terms that is above 0."""
    p, q = pull
    return lowest(q - p, q + p)


def ends_by_place(web):
    """Return for each place the list of the ends there, ascending."""
    found = [[] for _ in range(web.many)]
    for number, (u, v, _) in enumerate(web.ties):
        found[u].append(2 * number)
        found[v].append(2 * number + 1)
    return found


def orders_of(orders, web):
    """Return the ring orders as a tuple of tuples, or raise what is wrong with them."""
    if not is_row(orders) or len(orders) != web.many:
        raise BadLaying(-1)
    for place, (order, wanted) in enumerate(zip(orders, ends_by_place(web))):
        found = distinct_numbers(order)
        if found is None or list(found) != wanted:
            raise BadLaying(place)
    return tuple([tuple([int(end) for end in order]) for order in orders])


def other_end(end):
    """Return the other end of the tie of an end."""
    return end - 1 if end & 1 else end + 1


def faces_of(orders):
    """Return the faces as a tuple of tuples of ends, by their least ends."""
    followers = {}
    for order in orders:
        for end, follower in zip(order, order[1:] + order[:1]):
            followers[end] = follower
    faces = []
    done = {}
    for start in sorted(followers):
        if start not in done:
            face = []
            end = start
            while end not in done:
                done[end] = True
                face.append(end)
                end = followers[other_end(end)]
            faces.append(tuple(face))
    return tuple(faces)


class Laying:
    """A web laid on a surface by a ring order of the ends at each place."""

    def __init__(self, web, orders):
        if not web.ties:
            raise NoTie()
        need_positive(web)
        need_hanging(web)
        self.web = web
        self.orders = orders_of(orders, web)
        self.faces = faces_of(self.orders)

    @property
    def handles(self):
        """The number of handles."""
        return (2 - self.web.many + len(self.web.ties) - len(self.faces)) // 2

    @property
    def plane(self):
        """Whether there are no handles."""
        return self.handles == 0

    def face_of(self, end):
        """Return the number of the face that contains the end."""
        wanted = tie_number(end, 2 * len(self.web.ties))
        return [number for number, face in enumerate(self.faces) if wanted in face][0]

    def at_face(self, number):
        """Return the row of the places at the face, each at its first occurrence."""
        if not is_place(number, len(self.faces)):
            raise BadPlace()
        row = ()
        for end in self.faces[number]:
            place = self.web.ends(end // 2)[end & 1]
            if place not in row:
                row = row + (place,)
        return row

    def cut(self, lot):
        """Return the bundle of the ties with exactly one of their two ends in a face of the lot."""
        numbers = distinct_numbers(lot)
        if numbers is None or not all([number < len(self.faces) for number in numbers]):
            raise BadLot()
        inside = [end for number in numbers for end in self.faces[number]]
        return tuple([k for k in range(len(self.web.ties)) if (2 * k in inside) != (2 * k + 1 in inside)])

    def twin(self):
        """Return the twin: its places are the faces; a web with too many of them raises TooMany."""
        ties = [(self.face_of(2 * k), self.face_of(2 * k + 1), twin_of(t)) for k, (_, _, t) in enumerate(self.web.ties)]
        return Laying(Web(len(self.faces), ties), self.faces)

    def __eq__(self, other):
        return isinstance(other, Laying) and self.web == other.web and self.orders == other.orders


def plain_laying(web):
    """Return the laying of the web in which the ends at each place stand in ascending order."""
    return Laying(web, ends_by_place(web))
