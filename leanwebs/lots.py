"""Lots, sayings and partings of places, and their orders."""

from leanwebs.errors import BadCount, BadLot, BadParting, BadSaying, OddLot, TooMany
from leanwebs.ratios import is_integer, is_row

MOST_PLACES = 10


def count_of(many, most):
    """Return a number of places from 1 to most, or raise what is wrong with it."""
    if not is_integer(many) or many < 1:
        raise BadCount()
    if many > most:
        raise TooMany(int(many), most)
    return int(many)


def is_place(value, many):
    """Return whether value is one of the places 0 to many - 1."""
    return is_integer(value) and 0 <= value < many


def distinct_numbers(row):
    """Return the entries of a row of distinct integers >= 0 in ascending order, None for anything else."""
    if not is_row(row):
        return None
    if not all([is_integer(entry) and entry >= 0 for entry in row]):
        return None
    found = tuple(sorted([int(entry) for entry in row]))
    if len(set(found)) < len(found):
        return None
    return found


def lot_of(lot, many):
    """Return the lot as a tuple in ascending order."""
    places = count_of(many, MOST_PLACES)
    found = distinct_numbers(lot)
    if found is None or not all([place < places for place in found]):
        raise BadLot()
    return found


def even_lot_of(lot, many):
    """Return the lot as lot_of does; OddLot if it has an odd number of places."""
    found = lot_of(lot, many)
    if len(found) & 1:
        raise OddLot()
    return found


def joined(lot, other):
    """Return the lot of the numbers in exactly one of the two."""
    one = distinct_numbers(lot)
    if one is None:
        raise BadLot()
    two = distinct_numbers(other)
    if two is None:
        raise BadLot()
    return tuple(sorted([entry for entry in one if entry not in two] + [entry for entry in two if entry not in one]))


def subsets_by_bits(row):
    """Return all tuples of entries of the row; bit k of the index tells whether entry number k is in it."""
    found = [()]
    for entry in row:
        found = found + [chosen + (entry,) for chosen in found]
    return found


def subsets(row):
    """Return all tuples of entries of an ascending row, in the order of lots."""
    return sorted(subsets_by_bits(row), key=lambda chosen: (len(chosen), chosen))


def lots(many):
    """Return the list of all lots, in order."""
    return subsets(list(range(count_of(many, MOST_PLACES))))


def even_lots(many):
    """Return the list of all even lots, in order."""
    return [lot for lot in lots(many) if not len(lot) & 1]


def sayings(many):
    """Return the list of all sayings, in order."""
    places = count_of(many, MOST_PLACES)
    found = [()]
    for _ in range(places):
        found = [saying + (entry,) for saying in found for entry in (1, -1)]
    return found


def is_saying(saying, least, most):
    """Return whether saying is one with least to most entries."""
    if not is_row(saying) or not least <= len(saying) <= most:
        return False
    return all([is_integer(entry) and entry in (1, -1) for entry in saying])


def saying_of(saying, many):
    """Return the saying as a tuple."""
    places = count_of(many, MOST_PLACES)
    if not is_saying(saying, places, places):
        raise BadSaying()
    return tuple([int(entry) for entry in saying])


def contrary(saying):
    """Return the saying with all signs changed."""
    if not is_saying(saying, 1, MOST_PLACES):
        raise BadSaying()
    return tuple([-int(entry) for entry in saying])


def sign_at(saying, lot):
    """Return the product of the entries of the saying at the places of the lot."""
    if not is_saying(saying, 1, MOST_PLACES):
        raise BadSaying()
    sign = 1
    for place in lot_of(lot, len(saying)):
        sign = sign * int(saying[place])
    return sign


def parting_of(parting, places):
    """Return the parting of these places with blocks and places in order."""
    wanted = distinct_numbers(places)
    if wanted is None:
        raise BadLot()
    if not is_row(parting):
        raise BadParting()
    blocks = [distinct_numbers(block) for block in parting]
    if None in blocks or () in blocks:
        raise BadParting()
    if sorted([place for block in blocks for place in block]) != list(wanted):
        raise BadParting()
    return tuple(sorted(blocks))
