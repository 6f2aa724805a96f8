"""What is the same of states that are alike."""

from beltshares.states import kind_of


def kinds_in(work, cells):
    """The kinds of the wares in a belt's cells, None where a cell is empty."""
    return tuple([None if ware is None else kind_of(work, ware) for ware in cells])


def kind_place(work, state, number):
    """The place in a source's kinds of the ware that it gives next."""
    return state.gone[number][0] % len(work.knots[number].kinds)


def shape_of(work, state):
    """A tuple that is the same for two states of a work just when they are alike."""
    beat_place = state.turn % work.beat()
    kinds = tuple([kinds_in(work, cells) for cells in state.cells])
    places = tuple([kind_place(work, state, number) for number in work.sources()])
    return (beat_place, kinds, tuple(state.sides), places)


def alike(work, one, other):
    """Whether two states of a work are alike, so that what follows upon them is alike too."""
    return shape_of(work, one) == shape_of(work, other)
