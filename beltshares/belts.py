"""Belts, on which wares go from cell to cell."""

from beltshares.errors import BadBelt

MOST_ROOM = 6
MOST_PACE = 4


class Belt:
    """A belt of so many cells and of a pace; others are refused with BadBelt."""

    def __init__(self, room, pace):
        if not 1 <= room <= MOST_ROOM:
            raise BadBelt("a belt's room is out of its bounds")
        if not 1 <= pace <= MOST_PACE:
            raise BadBelt("a belt's pace is out of its bounds")
        self.room = room
        self.pace = pace
