"""What happens in one turn: first the knots act, then the belts move."""

from beltshares.knots import Joiner
from beltshares.states import copied_state, kind_of


def heads_of(work, state, knot):
    """The kinds of the wares at the ends of a knot's ins, None where there is no ware."""
    ends = [state.cells[belt][-1] for belt in knot.ins]
    return [None if ware is None else kind_of(work, ware) for ware in ends]


def taken_ware(state, number, from_belt):
    """Takes the ware that a knot moves off the end of its belt, or makes it, where the knot is a source."""
    if from_belt is None:
        return (number, state.gone[number][0])
    ware = state.cells[from_belt][-1]
    state.cells[from_belt][-1] = None
    return ware


def belt_at(belts, place):
    """The belt at a place, or None where there is no place."""
    return None if place is None else belts[place]


def counted_place(knot, chosen):
    """The place of the count that grows by what a knot moves."""
    if isinstance(knot, Joiner):
        return chosen[0]
    # Only a drain puts its ware on no belt, and it has one count.
    return 0 if chosen[1] is None else chosen[1]


def act(work, state, number):
    """Lets a knot act on a state; what it moved, as moves_of tells it, or None."""
    knot = work.knots[number]
    free = [state.cells[belt][0] is None for belt in knot.outs]
    chosen = knot.choice(heads_of(work, state, knot), free, state.turn, state.sides[number])
    if chosen is None:
        return None
    from_belt = belt_at(knot.ins, chosen[0])
    to_belt = belt_at(knot.outs, chosen[1])
    ware = taken_ware(state, number, from_belt)
    if to_belt is not None:
        state.cells[to_belt][0] = ware
    state.sides[number] = chosen[2]
    state.gone[number][counted_place(knot, chosen)] += 1
    return (number, ware, from_belt, to_belt)


def act_all(work, state):
    """Lets all knots act on a state, in the order of their numbers; the list of what they moved."""
    moves = []
    for number in range(len(work.knots)):
        move = act(work, state, number)
        if move is not None:
            moves.append(move)
    return moves


def move_belt(cells):
    """Moves each ware of a belt one cell on, where that one is empty by then."""
    # From the end back, so that a row of wares moves as one.
    for place in range(len(cells) - 2, -1, -1):
        if cells[place + 1] is None:
            cells[place + 1] = cells[place]
            cells[place] = None


def pass_turn(work, state):
    """Brings a state itself one turn on; the list of what the knots moved."""
    moves = act_all(work, state)
    for number, belt in enumerate(work.belts):
        if state.turn % belt.pace == 0:
            move_belt(state.cells[number])
    state.turn += 1
    return moves


def one_turn(work, state):
    """The state one turn later."""
    after = copied_state(state)
    pass_turn(work, after)
    return after


def moves_of(work, state):
    """What the knots move in the turn that comes next: tuples (knot, ware, from_belt, to_belt), in their order."""
    return act_all(work, copied_state(state))
