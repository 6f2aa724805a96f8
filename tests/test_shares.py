import unittest

from beltshares.belts import Belt
from beltshares.errors import TooLong
from beltshares.knots import Drain, FirstParter, Joiner, Parter, Sieve, Source
from beltshares.leaps import leapt
from beltshares.plays import played
from beltshares.ratios import ratio, ratio_sum
from beltshares.rounds import round_of
from beltshares.shares import round_counts, shares_of
from beltshares.works import Work

from tests.samples import (carousel_work, endless_work, filling_work, line_work, long_work, one_cell_belts, ring_work,
                           sample_works, six_kinds_work, work_fields)


class ByHand(unittest.TestCase):
    """[6.1]"""

    def told(self, work, counts, shares):
        self.assertEqual(round_counts(work), counts)
        self.assertEqual(shares_of(work), shares)

    def test_lines(self):
        self.told(line_work(), [[1], [1]], [[(1, 1)], [(1, 1)]])
        self.told(line_work(source_pace=3), [[1], [1]], [[(1, 3)], [(1, 3)]])
        self.told(line_work(source_pace=3, kinds=[1, 2, 3, 4]), [[4], [4]], [[(1, 3)], [(1, 3)]])
        self.told(line_work(room=6, drain_pace=4), [[1], [1]], [[(1, 4)], [(1, 4)]])

    def test_nought(self):
        self.told(line_work(drain_pace=0), [[0], [0]], [[(0, 1)], [(0, 1)]])
        self.told(line_work(room=6, pace=3, source_pace=4, drain_pace=0), [[0], [0]], [[(0, 1)], [(0, 1)]])

    def test_a_parter_of_three(self):
        work = Work(one_cell_belts(4), [Source(0, 2, [1]), Parter(0, [1, 2, 3]), Drain(1, 1), Drain(2, 1), Drain(3, 1)])
        self.told(work, [[3], [1, 1, 1], [1], [1], [1]],
                  [[(1, 2)], [(1, 6), (1, 6), (1, 6)], [(1, 6)], [(1, 6)], [(1, 6)]])

    def test_a_parter_with_a_shut_drain(self):
        work = Work(one_cell_belts(4), [Source(0, 2, [1]), Parter(0, [1, 2, 3]), Drain(1, 1), Drain(2, 0), Drain(3, 1)])
        self.told(work, [[2], [1, 0, 1], [1], [0], [1]],
                  [[(1, 2)], [(1, 4), (0, 1), (1, 4)], [(1, 4)], [(0, 1)], [(1, 4)]])

    def test_a_first_parter(self):
        work = Work(one_cell_belts(3), [Source(0, 1, [1]), FirstParter(0, [1, 2]), Drain(1, 4), Drain(2, 2)])
        counts = round_counts(work)
        self.assertEqual((counts[2], counts[3], round_of(work)[1]), ([1], [2], 4))
        self.assertEqual(shares_of(work), [[(3, 4)], [(1, 4), (1, 2)], [(1, 4)], [(1, 2)]])

    def test_a_sieve(self):
        work = Work(one_cell_belts(3), [Source(0, 1, [1, 2, 2]), Sieve(0, [1, 2], 1), Drain(1, 1), Drain(2, 1)])
        self.told(work, [[3], [1, 2], [1], [2]], [[(1, 1)], [(1, 3), (2, 3)], [(1, 3)], [(2, 3)]])

    def test_a_joiner(self):
        work = Work(one_cell_belts(3), [Source(0, 1, [1]), Source(1, 3, [1]), Joiner([0, 1], 2), Drain(2, 1)])
        self.told(work, [[2], [1], [2, 1], [3]], [[(2, 3)], [(1, 3)], [(2, 3), (1, 3)], [(1, 1)]])

    def test_wares_that_go_round_for_ever(self):
        self.assertEqual(shares_of(carousel_work()), [[(0, 1)], [(0, 1), (0, 1)], [(1, 2), (0, 1)], [(0, 1)]])


class Rounds(unittest.TestCase):
    """[6.1] over works."""

    def test_counts_of_states_a_round_apart(self):
        for work in sample_works():
            begin, length = round_of(work)
            counts = round_counts(work)
            for first in [begin, begin + 1, begin + 3 * length]:
                before = played(work, first).gone
                after = played(work, first + length).gone
                for old, new, grown in zip(before, after, counts, strict=True):
                    self.assertEqual([there + more for there, more in zip(old, grown, strict=True)], new)

    def test_shares_are_counts_by_length_in_lowest_terms(self):
        for work in sample_works():
            length = round_of(work)[1]
            wanted = [[ratio(count, length) for count in counts] for counts in round_counts(work)]
            self.assertEqual(shares_of(work), wanted)

    def test_shares_for_ever(self):
        for work in sample_works():
            length = round_of(work)[1]
            turns = 10 ** 59 - 10 ** 59 % length
            before = leapt(work, 1000).gone
            after = leapt(work, 1000 + turns).gone
            for number, shares in enumerate(shares_of(work)):
                for place, share in enumerate(shares):
                    self.assertEqual(ratio(after[number][place] - before[number][place], turns), share)

    def test_too_long(self):
        for ask in [round_counts, shares_of]:
            for handed in [(long_work(),), (filling_work(57),), (endless_work(), 1000), (line_work(room=2), 1),
                           (long_work(), 719)]:
                with self.assertRaises(TooLong):
                    ask(*handed)

    def test_limits(self):
        self.assertEqual(round_counts(line_work(), 1), [[1], [1]])
        self.assertEqual(shares_of(work=line_work(room=2), limit=2), [[(1, 1)], [(1, 1)]])
        self.assertEqual(round_counts(work=filling_work(57), limit=201)[0], [0])
        self.assertEqual(round_counts(filling_work(56))[14:], [[36], [48], [36], [48]])
        self.assertEqual(shares_of(filling_work(56))[14:], [[(1, 4)], [(1, 3)], [(1, 4)], [(1, 3)]])
        self.assertEqual(shares_of(long_work(), 720), [[(1, 4)], [(1, 3)], [(1, 4)]] * 2)

    def test_told_lists_are_the_askers_own(self):
        for ask in [round_counts, shares_of]:
            work = ring_work()
            before = work_fields(work)
            told = ask(work)
            copy = repr(told)
            told[0][0] = 9
            told[1].clear()
            told.pop()
            self.assertEqual(repr(ask(work)), copy)
            self.assertEqual(work_fields(work), before)


def summed(shares):
    total = (0, 1)
    for share in shares:
        total = ratio_sum(total, share)
    return total


class Holds(unittest.TestCase):
    """[6.2]"""

    def works(self):
        room = [Work([Belt(2, 1) for belt in range(3)], [Source(0, 1, [1]), knot, Drain(1, 2), Drain(2, 3)])
                for knot in [Parter(0, [1, 2]), FirstParter(0, [2, 1]), Sieve(0, [1, 2], 1)]]
        return sample_works() + room + [six_kinds_work()]

    def test_sources_give_what_drains_take(self):
        for work in self.works():
            shares = shares_of(work)
            self.assertEqual(summed(shares[number][0] for number in work.sources()),
                             summed(shares[number][0] for number in work.drains()))

    def test_what_comes_onto_a_belt_goes_off_it(self):
        seen = {}
        for work in self.works():
            shares = shares_of(work)
            for belt in range(len(work.belts)):
                feeder = work.feeder(belt)
                taker = work.taker(belt)
                comes = shares[feeder][work.knots[feeder].outs.index(belt)]
                if isinstance(work.knots[feeder], Joiner):
                    comes = summed(shares[feeder])
                goes = summed(shares[taker])
                if isinstance(work.knots[taker], Joiner):
                    goes = shares[taker][work.knots[taker].ins.index(belt)]
                self.assertEqual(comes, goes)
                if comes != (0, 1):
                    seen[type(work.knots[feeder]).__name__] = True
                    seen[type(work.knots[taker]).__name__] = True
        self.assertEqual(sorted(seen), ["Drain", "FirstParter", "Joiner", "Parter", "Sieve", "Source"])


if __name__ == "__main__":
    unittest.main()
