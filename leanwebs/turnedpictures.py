"""Pictures of a plane web in its twin: joint chances of an even bundle and a cluster bundle."""

from leanwebs.bundles import bundle_of
from leanwebs.clusters import fitting_saying
from leanwebs.joints import inner_and_clusters, saying_and_clusters
from leanwebs.ratios import times


def picture_in_web(laying, inner, bundle):
    """Return the joint chance, in the web, of the even bundle inner and the cluster bundle."""
    return inner_and_clusters(laying.web, inner, bundle)


def picture_in_twin(laying, inner, bundle):
    """Return the chance, in the twin, of the unlike ties inner and the cluster bundle of all ties not in bundle."""
    unlike = bundle_of(laying.web, inner)
    numbers = bundle_of(laying.web, bundle)
    twin = laying.twin().web
    every = list(range(len(twin.ties)))
    # A saying with just these unlike ties fits the twin made contrary on them; its contrary is the only other one.
    said = fitting_saying(twin.contrary(unlike), every)
    if said is None:
        return (0, 1)
    return times(2, saying_and_clusters(twin, said, [number for number in every if number not in numbers]))
