"""Works that stand still, and what waits for what in them."""

from beltshares.errors import Moving
from beltshares.knots import Drain, Sieve
from beltshares.rounds import growth_of, round_ends
from beltshares.states import kind_of


def still_state(work, limit):
    """The state at the first turn from which on nothing moves, or None; it refuses with TooLong as round_of does."""
    ends = round_ends(work, limit)
    # Where no knot moves a ware in a round, no belt does: its wares would lie further on at the round's end.
    for counts in growth_of(ends[0], ends[1]):
        if max(counts) > 0:
            return None
    # What stands still comes again after one beat, so no round begins later than the standing.
    return ends[0]


def still_from(work, limit=200):
    """The first turn from which on nothing moves any more, or None; it refuses with TooLong as round_of does."""
    state = still_state(work, limit)
    return None if state is None else state.turn


def first_laden(state):
    """The first belt with a ware, or None."""
    for belt, cells in enumerate(state.cells):
        # A ware that stands still stands at its belt's end, or behind others that do.
        if cells[-1] is not None:
            return belt
    return None


def waited_for(work, state, belt):
    """The belt that the ware at a belt's end waits to be put on, or None where it waits for a drain."""
    knot = work.knots[work.taker(belt)]
    if isinstance(knot, Drain):
        return None
    if isinstance(knot, Sieve):
        return knot.outs[knot.place_for(kind_of(work, state.cells[belt][-1]))]
    return knot.outs[0]


def waiting_way(work, limit=200):
    """The belts that wait for one another where all stands still, as (way, ring).

    It refuses with TooLong as round_of does, then with Moving where something moves for ever.
    """
    state = still_state(work, limit)
    if state is None:
        raise Moving("the work never stands still")
    way = []
    belt = first_laden(state)
    while belt is not None and belt not in way:
        way.append(belt)
        belt = waited_for(work, state, belt)
    ring = None if belt is None else way.index(belt)
    return (way, ring)
