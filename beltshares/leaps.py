"""Leaps to any turn by way of the round."""

from beltshares.plays import played
from beltshares.rounds import growth_of, round_ends
from beltshares.states import State
from beltshares.turns import pass_turn


def cells_by_ware(state):
    """The belt and place of each ware of a state, by the ware."""
    found = {}
    for belt, cells in enumerate(state.cells):
        for place, ware in enumerate(cells):
            if ware is not None:
                found[ware] = (belt, place)
    return found


def origin_of(ware, lay, before):
    """Where the ware of a cell comes from; lay tells the cells of the wares of the state before."""
    if ware is None:
        return None
    if ware in lay:
        return ("kept", lay[ware][0], lay[ware][1])
    return ("new", ware[0], ware[1] - before.gone[ware[0]][0])


def origins_of(before, after):
    """For each cell of the state after: None, ("kept", belt, place) or ("new", source, count)."""
    lay = cells_by_ware(before)
    origins = []
    for cells in after.cells:
        origins.append([origin_of(ware, lay, before) for ware in cells])
    return origins


class Lap:
    """The first round of a work, by which all later ones are told.

    Alike states move alike, so each round brings its wares from the same cells and sources as the first one.
    """

    def __init__(self, before, after):
        self.before = before
        self.length = after.turn - before.turn
        self.origins = origins_of(before, after)
        self.growth = growth_of(before, after)

    def new_ware(self, origin, rounds):
        """The ware that a source gave at an origin, in the round behind so many rounds."""
        source = origin[1]
        given = self.before.gone[source][0] + rounds * self.growth[source][0]
        return (source, given + origin[2])

    def ware_after(self, first, rounds):
        """What lies in a cell, a tuple (belt, place), so many rounds behind the begin."""
        cell = first
        left = rounds
        while left > 0:
            origin = self.origins[cell[0]][cell[1]]
            if origin is None:
                return None
            left -= 1
            if origin[0] == "new":
                return self.new_ware(origin, left)
            cell = (origin[1], origin[2])
            # No ware is kept in two cells, so a way back that meets no new ware comes to its first cell again.
            if cell == first:
                left = left % (rounds - left)
        return self.before.cells[cell[0]][cell[1]]

    def cells_after(self, rounds):
        """All cells so many rounds behind the begin."""
        cells = []
        for belt, old in enumerate(self.before.cells):
            cells.append([self.ware_after((belt, place), rounds) for place in range(len(old))])
        return cells

    def gone_after(self, rounds):
        """All counts so many rounds behind the begin."""
        gone = []
        for old, more in zip(self.before.gone, self.growth):
            gone.append([old[place] + rounds * more[place] for place in range(len(old))])
        return gone

    def state_after(self, rounds):
        """The state so many rounds behind the begin."""
        turn = self.before.turn + rounds * self.length
        return State(turn, self.cells_after(rounds), self.before.sides, self.gone_after(rounds))


def leapt(work, turns, limit=200):
    """The state that the play comes to after so many turns; it refuses with TooLong as round_of does."""
    ends = round_ends(work, limit)
    lap = Lap(ends[0], ends[1])
    begin = ends[0].turn
    if turns < begin:
        return played(work, turns)
    state = lap.state_after((turns - begin) // lap.length)
    for turn in range((turns - begin) % lap.length):
        pass_turn(work, state)
    return state
