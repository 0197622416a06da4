"""The heaviest tree of a table, and the tree web that a table tells."""

from leanwebs.cutstold import falling, numbers_of, table_of
from leanwebs.errors import BadTable
from leanwebs.pieces import parts_of
from leanwebs.webs import Web


def tree_of(many, numbers):
    """Return the pairs of the heaviest tree of a table as a list, ascending; BadTable if an entry is 0."""
    pairs = list(numbers)
    for at, pair in enumerate(pairs):
        if numbers[pair] == (0, 1):
            raise BadTable(at)
    kept = []
    for at in falling(list(numbers.values())):
        grown = kept + [pairs[at]]
        # Exactly the pairs that close no ring join two parts that were apart before.
        if len(parts_of(list(range(many)), grown)) == many - len(grown):
            kept = grown
    return sorted(kept)


def heaviest_tree(many, table):
    """Return the pairs of the heaviest tree of the table as a tuple, ascending."""
    return tuple(tree_of(many, numbers_of(many, table)))


def tree_told(many, table):
    """Return the tree web with the table, its ties the pairs of the heaviest tree; None if there is none."""
    numbers = numbers_of(many, table)
    web = Web(many, [(u, v, numbers[(u, v)]) for u, v in tree_of(many, numbers)])
    return web if table_of(web) == tuple(numbers.values()) else None
