"""Reports on works that are handed in as text."""

from beltshares.errors import TooLong
from beltshares.knots import Drain, Source
from beltshares.ratios import ratio_text
from beltshares.reading import read_work
from beltshares.rounds import round_of
from beltshares.shares import shares_of
from beltshares.waiting import still_from, waiting_way


def share_rows(work, limit):
    """A row for each source and each drain, in the order of the knots."""
    rows = []
    shares = shares_of(work, limit)
    for number, knot in enumerate(work.knots):
        share = ratio_text(shares[number][0])
        if isinstance(knot, Source):
            rows.append(f"source {number} {share}")
        if isinstance(knot, Drain):
            rows.append(f"drain {number} {share}")
    return rows


def still_rows(work, limit):
    """The rows that tell whether the work stands still, and what waits for what where it does."""
    turn = still_from(work, limit)
    if turn is None:
        return ["moving"]
    found = waiting_way(work, limit)
    waits = " ".join(["waits"] + [str(belt) for belt in found[0]])
    ring = "none" if found[1] is None else str(found[1])
    return [f"still {turn}", waits, f"ring {ring}"]


def report(text, limit=200):
    """What is to be told of the work that a text writes; it refuses with BadRow and BadWork as read_work does."""
    work = read_work(text)
    try:
        found = round_of(work, limit)
    except TooLong:
        return "round none"
    begin = found[0]
    length = found[1]
    rows = [f"round {begin} {length}"] + share_rows(work, limit) + still_rows(work, limit)
    return "\n".join(rows)
