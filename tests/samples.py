"""Works and helps that several tests share."""

from beltshares.belts import Belt
from beltshares.knots import Drain, FirstParter, Joiner, Parter, Sieve, Source
from beltshares.works import Work

MOST_KIND = 10 ** 30 - 1
BAD_KINDS = [10 ** 30, 10 ** 30 + 1, 10 ** 60, -1, -2, -(10 ** 30)]


def fields_of(thing):
    """The fields of a belt or a knot that the interface tells, with the name of its class."""
    names = ["room", "pace", "ins", "outs", "kinds", "kind"]
    return [type(thing).__name__] + [(name, getattr(thing, name)) for name in names if hasattr(thing, name)]


def work_fields(work):
    """All that is told of a work: the fields of its belts and knots, as values that are kept apart."""
    return repr([fields_of(thing) for thing in work.belts + work.knots])


def one_cell_belts(count):
    return [Belt(1, 1) for number in range(count)]


def line_work(room=1, pace=1, source_pace=1, drain_pace=1, kinds=(7,)):
    """A source, one belt, a drain."""
    return Work([Belt(room, pace)], [Source(0, source_pace, list(kinds)), Drain(0, drain_pace)])


def six_kinds_work(shut=False):
    """All six kinds of knots; wares of kind 5 and 0 by turns."""
    belts = [Belt(2, 1), Belt(1, 1), Belt(3, 2), Belt(2, 1), Belt(1, 3), Belt(2, 1), Belt(6, 4), Belt(1, 1)]
    knots = [
        Source(0, 1, [5, 0]),
        FirstParter(0, [1, 2]),
        Sieve(1, [3, 4], 5),
        Parter(2, [5, 6]),
        Joiner([4, 5], 7),
        Drain(3, 2),
        Drain(6, 0 if shut else 3),
        Drain(7, 1),
    ]
    return Work(belts, knots)


class Dice:
    """Numbers that look thrown and are the same at each run."""

    def __init__(self, seed):
        self.seed = seed

    def roll(self, sides):
        """A number from 0 to below sides."""
        self.seed = (self.seed * 6364136223846793005 + 1442695040888963407) % 2 ** 64
        return (self.seed >> 33) % sides

    def pick(self, parts):
        return parts[self.roll(len(parts))]

    def mixed(self, parts):
        """The same parts in another order."""
        left = list(parts)
        return [left.pop(self.roll(len(left))) for part in parts]


def thrown_forms(dice, inner):
    """Forms of knots, as (name, number of ins, number of outs), with as many ins as outs in all."""
    forms = []
    for number in range(inner):
        name = dice.pick(["parter", "first", "sieve", "joiner"])
        many = 2 if name == "sieve" else dice.pick([2, 2, 2, 3, 4])
        forms.append((name, many, 1) if name == "joiner" else (name, 1, many))
    lack = sum(form[1] for form in forms) - sum(form[2] for form in forms)
    spare = 1 + dice.roll(2)
    forms.extend([("source", 0, 1)] * (max(lack, 0) + spare))
    forms.extend([("drain", 1, 0)] * (max(-lack, 0) + spare))
    return dice.mixed(forms)


def thrown_knot(dice, name, ins, outs):
    if name == "source":
        return Source(outs[0], 1 + dice.roll(4), [dice.roll(3) for number in range(1 + dice.roll(3))])
    if name == "drain":
        return Drain(ins[0], dice.pick([0, 1, 1, 2, 3]))
    if name == "parter":
        return Parter(ins[0], outs)
    if name == "first":
        return FirstParter(ins[0], outs)
    if name == "sieve":
        return Sieve(ins[0], outs, dice.roll(3))
    return Joiner(ins, outs[0])


def thrown_work(seed):
    """A work thrown together: rings, knots that feed themselves and shut drains among them."""
    dice = Dice(seed)
    forms = []
    while not 1 <= sum(form[1] for form in forms) <= 24 or len(forms) > 24:
        forms = thrown_forms(dice, dice.roll(6))
    size = sum(form[1] for form in forms)
    ins = dice.mixed(range(size))
    outs = dice.mixed(range(size))
    knots = []
    for name, many_in, many_out in forms:
        knots.append(thrown_knot(dice, name, ins[:many_in], outs[:many_out]))
        ins = ins[many_in:]
        outs = outs[many_out:]
    return Work([Belt(1 + dice.roll(4), 1 + dice.roll(3)) for number in range(size)], knots)


def state_fields(state):
    """The four fields of a state."""
    return (state.turn, state.cells, state.sides, state.gone)


def kept_fields(state):
    """The four fields of a state as a text, which no later change reaches."""
    return repr(state_fields(state))


def ring_work():
    """A ring of a joiner and a parter, into which a source gives and out of which a drain takes."""
    return Work([Belt(2, 1), Belt(3, 1), Belt(2, 2), Belt(2, 1)],
                [Source(0, 3, [1, 2]), Joiner([0, 3], 1), Parter(1, [2, 3]), Drain(2, 2)])


def carousel_work(room=5, source_pace=3, kinds=(1, 2)):
    """A ring in which some wares of kind 1 go round for ever, once those of kind 2 stand before a shut drain."""
    belts = [Belt(1, 1), Belt(1, 1), Belt(1, 1), Belt(room, 1)]
    return Work(belts, [Source(0, source_pace, list(kinds)), Sieve(0, [1, 2], 1), Joiner([3, 1], 3), Drain(2, 0)])


def long_work():
    """Three lines whose rounds have no short one in common: its round is of 720 turns."""
    knots = [Source(0, 4, [1, 2, 3, 4, 5]), Source(1, 3, [1, 2, 3, 4, 5, 6]), Source(2, 4, [1, 2, 3, 4])]
    return Work(one_cell_belts(3), knots + [Drain(belt, 1) for belt in range(3)])


def endless_work():
    """A work whose round is of more than 1000 turns."""
    knots = [Source(0, 4, [1]), Parter(0, [1, 2, 3, 4]), Parter(1, [5, 6, 7, 8]),
             Source(9, 3, [1, 2, 3]), Source(10, 4, [1, 2, 3, 4, 5])]
    return Work(one_cell_belts(11), knots + [Drain(belt, 1) for belt in range(2, 11)])


def sample_works():
    """Works with and without rings, some of which fill up; the round of each is found within 200 turns."""
    works = [line_work(), line_work(room=6, pace=4, drain_pace=0), line_work(source_pace=3, drain_pace=4, kinds=[1, 2]),
             ring_work(), carousel_work(), carousel_work(5, 1, [1, 1, 2]), six_kinds_work(), six_kinds_work(shut=True)]
    return works + [thrown_work(seed) for seed in range(100, 130)]


def filling_work(cells, source_pace=1, beside=True):
    """So many cells, from 13 to 78, that fill up one by one, and beside them two lines with a round of 144 turns.

    With a source of pace 1 and with the lines beside it, its round begins at the turn of that number and is of
    144 turns; without them all stands still, at the turn at which the last cell is full.
    """
    belts = [Belt((cells + place) // 13, 1) for place in range(13)]
    knots = [Source(0, source_pace, [1]), FirstParter(0, [1, 2, 3, 4]), FirstParter(1, [5, 6, 7, 8]),
             FirstParter(2, [9, 10, 11, 12])] + [Drain(belt, 0) for belt in range(3, 13)]
    if beside:
        belts.extend(one_cell_belts(2))
        knots.extend([Source(13, 4, [1, 2, 3, 4]), Source(14, 3, [1, 2, 3, 4, 5, 6]), Drain(13, 1), Drain(14, 1)])
    return Work(belts, knots)
