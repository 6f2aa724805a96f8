"""Knots, each of which moves at most one ware in a turn, between the belts that meet in it."""

from beltshares.belts import MOST_PACE
from beltshares.errors import BadKnot

MOST_KINDS = 6
FEWEST_WAYS = 2
MOST_WAYS = 4


def check_pace(pace, least):
    """Refuses a knot's pace that is out of its bounds."""
    if not least <= pace <= MOST_PACE:
        raise BadKnot("a knot's pace is out of its bounds")


def check_kind(kind):
    """Refuses a number that is no kind."""
    if not 0 <= kind < 10 ** 30:
        raise BadKnot("a kind is out of its bounds")


def check_ways(belts):
    """Refuses too few or too many belts on the side of a knot where several are asked for."""
    if not FEWEST_WAYS <= len(belts) <= MOST_WAYS:
        raise BadKnot("a knot has too few or too many ins or outs")


def first_place(wanted, side):
    """The first place of a list that holds True, from side up and behind the last from 0 on, or None."""
    for step in range(len(wanted)):
        place = (side + step) % len(wanted)
        if wanted[place]:
            return place
    return None


def place_for_ware(head, free, side):
    """The first free place from side on for the ware at a belt's end, or None, also where there is no ware."""
    return None if head is None else first_place(free, side)


class Knot:
    """What all knots have: the belts that lead to it and the belts that lead away."""

    def __init__(self, ins, outs):
        self.ins = list(ins)
        self.outs = list(outs)

    def choice(self, heads, free, turn, side):
        """What the knot moves in a turn: None, or the places in ins and outs and the next side."""
        return None

    def copied(self):
        """A knot of the same class with the same fields."""
        return Knot(self.ins, self.outs)


class Source(Knot):
    """Gives wares, of its kinds in turn."""

    def __init__(self, out, pace, kinds):
        check_pace(pace, 1)
        if not 1 <= len(kinds) <= MOST_KINDS:
            raise BadKnot("a source has too few or too many kinds")
        for kind in kinds:
            check_kind(kind)
        Knot.__init__(self, [], [out])
        self.pace = pace
        self.kinds = list(kinds)

    def choice(self, heads, free, turn, side):
        """A new ware at each multiple of the pace, where the out is free."""
        if not free[0] or turn % self.pace != 0:
            return None
        return (None, 0, side)

    def copied(self):
        """A source with the same fields."""
        return Source(self.outs[0], self.pace, self.kinds)


class Drain(Knot):
    """Takes wares for ever; one of pace 0 is shut."""

    def __init__(self, into, pace):
        check_pace(pace, 0)
        Knot.__init__(self, [into], [])
        self.pace = pace

    def choice(self, heads, free, turn, side):
        """The ware that is there, at each multiple of the pace, unless the drain is shut."""
        # Asked for first, since nothing can be told to be a multiple of a shut drain's pace.
        if self.pace == 0:
            return None
        if heads[0] is None or turn % self.pace != 0:
            return None
        return (0, None, side)

    def copied(self):
        """A drain with the same fields."""
        return Drain(self.ins[0], self.pace)


class Parter(Knot):
    """Sends the wares of one belt onto its free outs by turns."""

    def __init__(self, into, outs):
        check_ways(outs)
        Knot.__init__(self, [into], outs)

    def choice(self, heads, free, turn, side):
        """The ware that is there, onto the first free out from the side on."""
        place = place_for_ware(heads[0], free, side)
        if place is None:
            return None
        return (0, place, (place + 1) % len(self.outs))

    def copied(self):
        """A parter with the same fields."""
        return Parter(self.ins[0], self.outs)


class FirstParter(Knot):
    """Sends each ware of one belt onto the first of its outs that is free."""

    def __init__(self, into, outs):
        check_ways(outs)
        Knot.__init__(self, [into], outs)

    def choice(self, heads, free, turn, side):
        """The ware that is there, onto the first free out of all."""
        place = place_for_ware(heads[0], free, 0)
        if place is None:
            return None
        return (0, place, side)

    def copied(self):
        """A first parter with the same fields."""
        return FirstParter(self.ins[0], self.outs)


class Sieve(Knot):
    """Sends the wares of one kind onto its out 0 and all others onto its out 1."""

    def __init__(self, into, outs, kind):
        if len(outs) != 2:
            raise BadKnot("a sieve has too few or too many outs")
        check_kind(kind)
        Knot.__init__(self, [into], outs)
        self.kind = kind

    def choice(self, heads, free, turn, side):
        """The ware that is there, where the out for its kind is free."""
        if heads[0] is None:
            return None
        place = self.place_for(heads[0])
        if not free[place]:
            return None
        return (0, place, side)

    def place_for(self, kind):
        """The place in outs onto which a ware of a kind goes."""
        return 0 if kind == self.kind else 1

    def copied(self):
        """A sieve with the same fields."""
        return Sieve(self.ins[0], self.outs, self.kind)


class Joiner(Knot):
    """Sends the wares of several belts onto one by turns."""

    def __init__(self, ins, out):
        check_ways(ins)
        Knot.__init__(self, ins, [out])

    def choice(self, heads, free, turn, side):
        """The first ware that is there from the side on, where the out is free."""
        if not free[0]:
            return None
        place = first_place([head is not None for head in heads], side)
        if place is None:
            return None
        return (place, 0, (place + 1) % len(self.ins))

    def copied(self):
        """A joiner with the same fields."""
        return Joiner(self.ins, self.outs[0])
