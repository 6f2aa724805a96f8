"""Works written as text, a row for each belt and then a row for each knot."""

from beltshares.knots import Drain, FirstParter, Parter, Sieve, Source


def row_of(name, numbers):
    """A row of a name and numbers, with one blank between two words."""
    return " ".join([name] + [str(number) for number in numbers])


def knot_row(knot):
    """The row of a knot."""
    if isinstance(knot, Source):
        return row_of("source", knot.outs + [knot.pace] + knot.kinds)
    if isinstance(knot, Drain):
        return row_of("drain", knot.ins + [knot.pace])
    if isinstance(knot, Parter):
        return row_of("parter", knot.ins + knot.outs)
    if isinstance(knot, FirstParter):
        return row_of("first", knot.ins + knot.outs)
    if isinstance(knot, Sieve):
        return row_of("sieve", knot.ins + knot.outs + [knot.kind])
    return row_of("joiner", knot.outs + knot.ins)


def work_text(work):
    """A work as text."""
    rows = [row_of("belt", [belt.room, belt.pace]) for belt in work.belts]
    rows.extend([knot_row(knot) for knot in work.knots])
    return "\n".join(rows)
