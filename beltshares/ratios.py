"""Exact ratios of whole numbers: tuples (top, bottom) in lowest terms, with a bottom of 1 or more."""

from beltshares.errors import NoRatio


def common(one, other):
    """The greatest whole number that divides both of two numbers, each 0 or more; 0 for two noughts."""
    part = one
    rest = other
    while rest > 0:
        left = part % rest
        part = rest
        rest = left
    return part


def ratio(top, bottom):
    """The ratio of two whole numbers; a bottom of nought is refused with NoRatio."""
    if bottom == 0:
        raise NoRatio("the bottom of a ratio is nought")
    part = common(abs(top), abs(bottom))
    # A part below nought turns both signs, so that the bottom comes out above nought.
    if bottom < 0:
        part = -part
    return (top // part, bottom // part)


def ratio_sum(one, other):
    """The sum of two ratios."""
    return ratio(one[0] * other[1] + other[0] * one[1], one[1] * other[1])


def ratio_times(one, many):
    """A ratio times a whole number."""
    return ratio(one[0] * many, one[1])


def ratio_less(one, other):
    """Whether the first ratio is less than the other."""
    # Bottoms are above nought, so taking both ratios times both bottoms keeps their order.
    return one[0] * other[1] < other[0] * one[1]


def ratio_text(one):
    """TOP/BOTTOM, or TOP alone where the bottom is 1."""
    top = one[0]
    bottom = one[1]
    if bottom == 1:
        return f"{top}"
    return f"{top}/{bottom}"


def lasting(paces):
    """The least whole number, 1 or more, that each of the paces (each 1 or more) divides."""
    number = 1
    for pace in paces:
        number = number // common(number, pace) * pace
    return number
