"""Cut sums of two places and a lot, and how often ways meet the lot."""

from leanwebs.given import means_by_lot, two_places, with_pulls
from leanwebs.lots import joined, lot_of
from leanwebs.ratios import sum_of, times

HALF = (1, 2)


def cut_sum(web, u, w, lot):
    """Return the sum over the places of the lot of the products of their means with u and with w."""
    start, goal = two_places(u, w, web.many)
    places = lot_of(lot, web.many)
    told = means_by_lot(web)
    return sum_of([times(told[joined((start,), (place,))], told[joined((place,), (goal,))]) for place in places])


def least_counts(web, places, start):
    """Return a dict: for each place that a way by the shape reaches the least number of the places on one to it."""
    counts = {start: 1 if start in places else 0}
    steps = [(u, v) for u, v, _ in web.ties] + [(v, u) for u, v, _ in web.ties]
    # A way has fewer ties than there are places, so that as many rounds reach all there is to reach.
    for _ in range(web.many):
        for u, v in steps:
            if u in counts:
                count = counts[u] + (1 if v in places else 0)
                counts[v] = min(count, counts.get(v, count))
    return counts


def least_met(web, lot, u, w):
    """Return the least number of places of the lot on a way by the shape from u to w, None without a way."""
    places = lot_of(lot, web.many)
    start, goal = two_places(u, w, web.many)
    return least_counts(web, places, start).get(goal, None)


def is_cut(web, lot, u, w):
    """Return whether each way by the shape from u to w visits a place of the lot."""
    return least_met(web, lot, u, w) != 0


def uncut_web(web, lot, u, w):
    """Return a web of the shape in which the cut sum is less than the mean of u and w, None if the lot cuts them."""
    if is_cut(web, lot, u, w):
        return None
    places = lot_of(lot, web.many)
    # No tie with a pull above 0 is at a place of the lot, so that the cut sum is 0.
    return with_pulls(web, [0 if u in places or v in places else HALF for u, v, _ in web.ties])
