"""Works at a turn: the wares on their belts, the sides of their knots and what has gone over these."""


class State:
    """A work at a turn; it keeps copies of what it is made with."""

    def __init__(self, turn, cells, sides, gone):
        self.turn = turn
        self.cells = [list(belt_cells) for belt_cells in cells]
        self.sides = list(sides)
        self.gone = [list(counts) for counts in gone]


def kind_of(work, ware):
    """The kind of a ware, a tuple (source, serial): the kinds of its source come round again and again."""
    kinds = work.knots[ware[0]].kinds
    return kinds[ware[1] % len(kinds)]


def no_counts(knot):
    """A count of 0 for each that is kept of a knot."""
    # No knot has several belts on both its sides, and what is counted is the side that has more.
    return [0] * max(len(knot.ins), len(knot.outs))


def empty_state(work):
    """Turn 0, with no ware, all sides 0 and all counts 0."""
    cells = [[None] * belt.room for belt in work.belts]
    sides = [0] * len(work.knots)
    return State(0, cells, sides, [no_counts(knot) for knot in work.knots])


def copied_state(state):
    """A state with the same fields that shares nothing with it."""
    return State(state.turn, state.cells, state.sides, state.gone)
