"""Works that part evenly, made for a number of ways."""

from beltshares.belts import MOST_PACE, Belt
from beltshares.errors import BadPaces
from beltshares.knots import Drain, Joiner, Parter, Source
from beltshares.works import Work

MOST_EVEN_WAYS = 8
# A faster source would leave the joiner no turn for the wares that are led back.
LEAST_EVEN_PACE = 2


def ends_for(ways):
    """The number of ends, at least so many, of a tree that parts in two at each step."""
    ends = 1
    while ends < ways:
        ends = ends * 2
    return ends


def grow_tree(root, count, knots):
    """Adds parters behind a belt to the knots, with the belts numbered on from it; the list of its so many ends."""
    ends = [root]
    belt = root
    while len(ends) < count:
        grown = []
        for end in ends:
            knots.append(Parter(end, [belt + 1, belt + 2]))
            grown.extend([belt + 1, belt + 2])
            belt += 2
        ends = grown
    return ends


def even_work(ways, kinds, pace=2):
    """A work of one source whose drains' counts never differ by more than one.

    It refuses with BadPaces ways and a pace that are out of their bounds, then with BadKnot what a source refuses.
    """
    if not 1 <= ways <= MOST_EVEN_WAYS:
        raise BadPaces("the ways are out of their bounds")
    if not LEAST_EVEN_PACE <= pace <= MOST_PACE:
        raise BadPaces("the pace is out of its bounds")
    knots = [Source(0, pace, kinds)]
    count = ends_for(ways)
    root = 0 if count == ways else 1
    ends = grow_tree(root, count, knots)
    # Ends that are left lead back into the tree, so that its wares all come to a drain at last, to each as many.
    if count > ways:
        knots.append(Joiner([0] + ends[ways:], root))
    knots.extend([Drain(end, 1) for end in ends[:ways]])
    return Work([Belt(2, 1) for belt in range(ends[-1] + 1)], knots)
