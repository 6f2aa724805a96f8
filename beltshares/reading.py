"""Works read from their text."""

from beltshares.belts import Belt
from beltshares.errors import BadBelt, BadKnot, BadRow
from beltshares.knots import Drain, FirstParter, Joiner, Knot, Parter, Sieve, Source
from beltshares.words import number_from
from beltshares.works import Work


def made_part(name, numbers):
    """The belt or knot of a row's name and numbers, or None where the name has not just these many numbers.

    It refuses with BadBelt and BadKnot what these classes refuse.
    """
    many = len(numbers)
    if name == "belt" and many == 2:
        return Belt(numbers[0], numbers[1])
    if name == "source" and many >= 2:
        return Source(numbers[0], numbers[1], numbers[2:])
    if name == "drain" and many == 2:
        return Drain(numbers[0], numbers[1])
    if name == "parter" and many >= 1:
        return Parter(numbers[0], numbers[1:])
    if name == "first" and many >= 1:
        return FirstParter(numbers[0], numbers[1:])
    if name == "sieve" and many == 4:
        return Sieve(numbers[0], numbers[1:3], numbers[3])
    if name == "joiner" and many >= 1:
        return Joiner(numbers[1:], numbers[0])
    return None


def part_from(row):
    """The belt or knot that a row writes, or None where it writes none."""
    words = row.split(" ")
    numbers = [number_from(word) for word in words[1:]]
    if None in numbers:
        return None
    try:
        return made_part(words[0], numbers)
    except BadBelt:
        return None
    except BadKnot:
        return None


def read_work(text):
    """The work that a text writes; it refuses with BadRow the first bad row, and with BadWork what is no work."""
    belts = []
    knots = []
    for place, row in enumerate(text.split("\n")):
        part = part_from(row)
        if isinstance(part, Knot):
            knots.append(part)
        elif isinstance(part, Belt) and len(knots) == 0:
            belts.append(part)
        else:
            raise BadRow(place + 1)
    return Work(belts, knots)
