"""Works played turn by turn from the empty state."""

from beltshares.states import empty_state
from beltshares.turns import pass_turn


def played(work, turns):
    """The state after so many turns."""
    state = empty_state(work)
    for turn in range(turns):
        pass_turn(work, state)
    return state


def log_of(work, turns):
    """What the knots moved in each of so many turns, a list for each."""
    state = empty_state(work)
    return [pass_turn(work, state) for turn in range(turns)]
