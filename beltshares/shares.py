"""What goes over each side of a knot in a round, and by turn for ever."""

from beltshares.ratios import ratio
from beltshares.rounds import growth_of, round_ends


def round_counts(work, limit=200):
    """For each knot, by how much its counts grow in a round; it refuses with TooLong as round_of does."""
    ends = round_ends(work, limit)
    return growth_of(ends[0], ends[1])


def shares_of(work, limit=200):
    """For each knot, the wares by turn for ever, as ratios; it refuses with TooLong as round_of does."""
    ends = round_ends(work, limit)
    length = ends[1].turn - ends[0].turn
    shares = []
    for counts in growth_of(ends[0], ends[1]):
        shares.append([ratio(count, length) for count in counts])
    return shares
