"""The round of a work, which comes again for ever."""

from beltshares.errors import TooLong
from beltshares.shapes import shape_of
from beltshares.states import empty_state
from beltshares.turns import one_turn


def round_ends(work, limit):
    """The states at the begin of the first round and at its end; it refuses with TooLong as round_of does."""
    state = empty_state(work)
    state_by_shape = {}
    for turn in range(limit + 1):
        shape = shape_of(work, state)
        if shape in state_by_shape:
            return (state_by_shape[shape], state)
        state_by_shape[shape] = state
        state = one_turn(work, state)
    raise TooLong("no round is found within the limit")


def round_of(work, limit=200):
    """The tuple (begin, length) of the first round within limit turns; it refuses with TooLong where none is."""
    ends = round_ends(work, limit)
    return (ends[0].turn, ends[1].turn - ends[0].turn)


def growth_of(before, after):
    """For each knot, by how much each of its counts grows from one state to another."""
    growth = []
    for old, new in zip(before.gone, after.gone):
        growth.append([new[place] - old[place] for place in range(len(old))])
    return growth
