"""Works: belts and the knots between them."""

from beltshares.belts import Belt
from beltshares.errors import BadWork
from beltshares.knots import Drain, Source
from beltshares.ratios import lasting

MOST_BELTS = 24
MOST_KNOTS = 24


def check_size(belts, knots):
    """Refuses too few or too many belts or knots."""
    if not 1 <= len(belts) <= MOST_BELTS:
        raise BadWork("a work has too few or too many belts")
    if not 1 <= len(knots) <= MOST_KNOTS:
        raise BadWork("a work has too few or too many knots")


def check_each_once(named, size):
    """Refuses numbers that are not those of all belts, each just once."""
    if sorted(named) != list(range(size)):
        raise BadWork("a belt does not stand in just one place among the ins or outs")


class Work:
    """Belts and knots in which each belt leads from one knot to one knot, which may be the same."""

    def __init__(self, belts, knots):
        check_size(belts, knots)
        fed = []
        taken = []
        for knot in knots:
            fed.extend(knot.outs)
            taken.extend(knot.ins)
        check_each_once(fed, len(belts))
        check_each_once(taken, len(belts))
        # Copies, so that nothing that is handed in is read later.
        self.belts = [Belt(belt.room, belt.pace) for belt in belts]
        self.knots = [knot.copied() for knot in knots]

    def feeder(self, belt):
        """The number of the knot in whose outs a belt stands."""
        return [belt in knot.outs for knot in self.knots].index(True)

    def taker(self, belt):
        """The number of the knot in whose ins a belt stands."""
        return [belt in knot.ins for knot in self.knots].index(True)

    def drains(self):
        """The rising list of the numbers of the drains."""
        return [number for number, knot in enumerate(self.knots) if isinstance(knot, Drain)]

    def sources(self):
        """The rising list of the numbers of the sources."""
        return [number for number, knot in enumerate(self.knots) if isinstance(knot, Source)]

    def beat(self):
        """The least number that each pace divides, but for the shut drains."""
        paces = [belt.pace for belt in self.belts]
        for number in self.sources() + self.drains():
            pace = self.knots[number].pace
            if pace > 0:
                paces.append(pace)
        return lasting(paces)
