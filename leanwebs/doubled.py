"""Doubled weights, and the weights seen at watched places."""

from leanwebs.bundles import bundle_of, ends_of, need_few_ties, parts_by
from leanwebs.errors import TooMany
from leanwebs.lots import even_lot_of, lot_of, subsets_by_bits
from leanwebs.pieces import need_not_below
from leanwebs.ratios import lowest, over, times
from leanwebs.sums import bottom_of, total

MOST_DOUBLED = 6


def need_doubled(web):
    """Raise what keeps a web from having doubled weights."""
    if web.many > MOST_DOUBLED:
        raise TooMany(web.many, MOST_DOUBLED)
    need_few_ties(web)
    need_not_below(web)


def doubled_rows(web, even):
    """Return a list of tuples (bundle c, V_A(c) times the squares of the denominators of all pulls)."""
    bundles = subsets_by_bits(list(range(len(web.ties))))
    tops = [1 if ends_of(web, numbers) == even else 0 for numbers in bundles]
    # Tie by tie, a number that stood for a bundle F becomes one for a bundle c around it.
    for number, (_, _, (p, q)) in enumerate(web.ties):
        bit = 1 << number
        both, rest, none = 2 * p * q, 2 * p * p, q * q - p * p
        tops = [both * tops[k] + rest * tops[k - bit] if k & bit else none * tops[k] for k in range(len(tops))]
    return [(numbers, top << len(parts_by(web, numbers))) for numbers, top in zip(bundles, tops)]


def doubled_weight(web, lot, bundle):
    """Return the doubled weight of the bundle for the lot."""
    need_doubled(web)
    even = even_lot_of(lot, web.many)
    wanted = bundle_of(web, bundle)
    bottom = bottom_of(web)
    return lowest(sum([top for numbers, top in doubled_rows(web, even) if numbers == wanted]), bottom * bottom)


def divided(parting, lot):
    """Return the parting of the lot into its places in the blocks of the parting."""
    blocks = [tuple([place for place in block if place in lot]) for block in parting]
    return tuple(sorted([block for block in blocks if block]))


def weights_seen(web, lot, watched):
    """Return the list of tuples (parting, weight seen) of the lot at the watched places."""
    need_doubled(web)
    even = even_lot_of(lot, web.many)
    places = lot_of(watched, web.many)
    sums = {}
    for numbers, top in doubled_rows(web, even):
        if top:
            parting = divided(parts_by(web, numbers), places)
            sums[parting] = sums.get(parting, 0) + top
    bottom = bottom_of(web)
    whole = times(total(web), total(web))
    scale = over((1 << web.many, bottom * bottom), whole)
    return [(parting, times(sums[parting], scale)) for parting in sorted(sums)]
