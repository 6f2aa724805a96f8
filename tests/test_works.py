import unittest

from beltshares.belts import Belt
from beltshares.errors import BadWork, WorkError
from beltshares.knots import Drain, FirstParter, Joiner, Parter, Sieve, Source
from beltshares.works import Work

from tests.samples import fields_of, line_work, one_cell_belts, six_kinds_work, thrown_work, work_fields

FAR = 10 ** 60


def source(belt):
    return Source(belt, 1, [1])


def drain(belt):
    return Drain(belt, 1)


def lines(count):
    """So many belts, each from a source to a drain."""
    return [source(belt) for belt in range(count)] + [drain(belt) for belt in range(count)]


def rings(sizes):
    """Rings of a parter and a joiner, with so many belts from the one to the other, and one back."""
    knots = []
    belt = 0
    for many in sizes:
        between = list(range(belt + 1, belt + 1 + many))
        knots.extend([Parter(belt, between), Joiner(between, belt)])
        belt += 1 + many
    return knots


class Made(unittest.TestCase):
    """[2.4] works that are works."""

    def test_one_belt_and_two_knots(self):
        work = line_work(room=2, pace=3, source_pace=4, drain_pace=0, kinds=[5, 6])
        self.assertEqual([fields_of(belt) for belt in work.belts], [fields_of(Belt(2, 3))])
        self.assertEqual([fields_of(knot) for knot in work.knots],
                         [fields_of(Source(0, 4, [5, 6])), fields_of(Drain(0, 0))])
        self.assertEqual((work.feeder(0), work.taker(0)), (0, 1))

    def test_fields_of_all_six(self):
        work = six_kinds_work()
        knots = [Source(0, 1, [5, 0]), FirstParter(0, [1, 2]), Sieve(1, [3, 4], 5), Parter(2, [5, 6]),
                 Joiner([4, 5], 7), Drain(3, 2), Drain(6, 3), Drain(7, 1)]
        self.assertEqual([fields_of(knot) for knot in work.knots], [fields_of(knot) for knot in knots])
        self.assertEqual([(belt.room, belt.pace) for belt in work.belts],
                         [(2, 1), (1, 1), (3, 2), (2, 1), (1, 3), (2, 1), (6, 4), (1, 1)])

    def test_feeders_and_takers(self):
        work = six_kinds_work()
        self.assertEqual([work.feeder(belt) for belt in range(8)], [0, 1, 1, 2, 2, 3, 3, 4])
        self.assertEqual([work.taker(belt) for belt in range(8)], [1, 2, 3, 5, 4, 4, 6, 7])

    def test_the_order_of_the_knots(self):
        work = Work(one_cell_belts(2), [drain(1), drain(0), source(1), source(0)])
        self.assertEqual([work.feeder(0), work.feeder(1)], [3, 2])
        self.assertEqual([work.taker(0), work.taker(1)], [1, 0])

    def test_a_ring(self):
        work = Work(one_cell_belts(4), [Parter(0, [1, 2]), Joiner([3, 1], 0), drain(2), source(3)])
        self.assertEqual([work.feeder(belt) for belt in range(4)], [1, 0, 0, 3])
        self.assertEqual([work.taker(belt) for belt in range(4)], [0, 1, 2, 1])

    def test_nothing_but_a_ring(self):
        work = Work(one_cell_belts(3), rings([2]))
        self.assertEqual((work.drains(), work.sources()), ([], []))
        self.assertEqual([work.feeder(belt) for belt in range(3)], [1, 0, 0])

    def test_knots_that_feed_themselves(self):
        for knots in [[drain(1), Parter(0, [0, 1])], [drain(1), FirstParter(0, [1, 0])],
                      [drain(1), Sieve(0, [1, 0], 3)], [source(1), Joiner([0, 1], 0)]]:
            work = Work(one_cell_belts(2), knots)
            self.assertEqual((work.feeder(0), work.taker(0)), (1, 1))

    def test_twenty_four_belts(self):
        work = Work(one_cell_belts(24), rings([4, 4, 4, 4, 3]))
        self.assertEqual((len(work.belts), len(work.knots)), (24, 10))
        self.assertEqual([work.feeder(belt) for belt in [0, 1, 4, 5, 20, 23]], [1, 0, 0, 3, 9, 8])
        self.assertEqual([work.taker(belt) for belt in [0, 1, 4, 5, 20, 23]], [0, 1, 1, 2, 8, 9])

    def test_twenty_four_knots(self):
        work = Work(one_cell_belts(12), lines(12))
        self.assertEqual((len(work.belts), len(work.knots)), (12, 24))
        self.assertEqual((work.sources(), work.drains()), (list(range(12)), list(range(12, 24))))
        self.assertEqual((work.feeder(11), work.taker(11)), (11, 23))
        self.assertEqual(len(Work(one_cell_belts(13), lines(11) + [Joiner([11, 12], 11), source(12)]).knots), 24)

    def test_drains_and_sources_rise(self):
        work = Work(one_cell_belts(3), [Drain(2, 0), source(1), drain(0), source(2), source(0), drain(1)])
        self.assertEqual(work.drains(), [0, 2, 5])
        self.assertEqual(work.sources(), [1, 3, 4])

    def test_thrown_works(self):
        for seed in range(60):
            work = thrown_work(seed)
            for belt in range(len(work.belts)):
                with self.subTest(seed=seed, belt=belt):
                    self.assertIn(belt, work.knots[work.feeder(belt)].outs)
                    self.assertIn(belt, work.knots[work.taker(belt)].ins)


class Refused(unittest.TestCase):
    """[2.4] what is no work."""

    def refused(self, belts, knots):
        with self.subTest(belts=belts, knots=[fields_of(knot) for knot in knots]):
            with self.assertRaises(BadWork) as caught:
                Work(one_cell_belts(belts), knots)
            self.assertIsInstance(caught.exception, WorkError)

    def test_none_at_all(self):
        self.refused(0, [])
        self.refused(0, lines(1))
        self.refused(1, [])
        self.refused(24, [])

    def test_twenty_five_belts(self):
        self.refused(25, rings([4, 4, 4, 4, 4]))
        self.refused(25, lines(25))

    def test_twenty_five_knots(self):
        self.refused(14, lines(11) + [Joiner([11, 12, 13], 11), source(12), source(13)])
        self.refused(13, lines(13))

    def test_in_no_outs(self):
        self.refused(2, [source(0), drain(0), drain(1)])
        self.refused(2, [source(1), drain(0), drain(1)])
        self.refused(1, [drain(0)])

    def test_in_no_ins(self):
        self.refused(2, [source(0), source(1), drain(0)])
        self.refused(2, [source(0), source(1), drain(1)])
        self.refused(1, [source(0)])

    def test_in_neither(self):
        self.refused(2, lines(1))
        self.refused(3, [source(0), drain(0), source(2), drain(2)])

    def test_in_the_outs_of_two(self):
        self.refused(1, [source(0), source(0), drain(0)])
        self.refused(2, [source(0), source(1), source(1), drain(0), drain(1)])
        self.refused(2, [source(0), Parter(0, [1, 0]), drain(1)])

    def test_in_the_ins_of_two(self):
        self.refused(1, [source(0), drain(0), drain(0)])
        self.refused(2, [source(0), source(1), drain(0), drain(1), drain(0)])
        self.refused(2, [Joiner([0, 1], 1), source(0), drain(1)])

    def test_twice_in_one_list(self):
        self.refused(2, [source(0), Parter(0, [1, 1]), drain(1)])
        self.refused(3, [source(0), Parter(0, [1, 1]), drain(1), drain(2)])
        self.refused(3, [source(0), FirstParter(0, [2, 1, 2]), drain(1), drain(2)])
        self.refused(2, [source(0), Sieve(0, [1, 1], 4), drain(1)])
        self.refused(2, [source(0), Joiner([0, 0], 1), drain(1)])
        self.refused(3, [source(0), source(2), Joiner([0, 0], 1), drain(1)])

    def test_a_number_that_is_no_belts(self):
        for number in [-1, -2, 2, 3, FAR, -FAR]:
            self.refused(2, [source(0), source(number), drain(0), drain(1)])
            self.refused(2, [source(0), source(1), drain(0), drain(number)])
            self.refused(2, [source(0), source(number), drain(0), drain(number)])
            self.refused(2, lines(2) + [source(number)])
            self.refused(2, lines(2) + [drain(number)])
            self.refused(2, lines(2) + [source(number), drain(number)])


class Beat(unittest.TestCase):
    """[2.4] the beat."""

    def test_all_paces_are_in_it(self):
        self.assertEqual(line_work().beat(), 1)
        self.assertEqual(line_work(pace=4).beat(), 4)
        self.assertEqual(line_work(source_pace=3).beat(), 3)
        self.assertEqual(line_work(drain_pace=2).beat(), 2)
        self.assertEqual(line_work(pace=4, source_pace=3, drain_pace=2).beat(), 12)
        self.assertEqual(line_work(pace=2, source_pace=4).beat(), 4)

    def test_shut_drains_are_not_in_it(self):
        self.assertEqual(line_work(drain_pace=0).beat(), 1)
        self.assertEqual(line_work(pace=3, source_pace=2, drain_pace=0).beat(), 6)

    def test_of_all_six(self):
        self.assertEqual(six_kinds_work().beat(), 12)
        self.assertEqual(six_kinds_work(shut=True).beat(), 12)

    def test_each_belt_and_knot(self):
        for place in range(3):
            paces = [1, 1, 1]
            paces[place] = 3
            belts = [Belt(1, pace) for pace in paces]
            self.assertEqual(Work(belts, lines(3)).beat(), 3)
            sources = [Source(belt, pace, [1]) for belt, pace in enumerate(paces)]
            self.assertEqual(Work(one_cell_belts(3), sources + lines(3)[3:]).beat(), 3)
            drains = [Drain(belt, pace) for belt, pace in enumerate(paces)]
            self.assertEqual(Work(one_cell_belts(3), lines(3)[:3] + drains).beat(), 3)


class Kept(unittest.TestCase):
    """[0.2] what is told and what is handed in."""

    def test_told_lists_are_the_askers_own(self):
        work = six_kinds_work()
        before = work_fields(work)
        work.drains().append(9)
        work.sources().clear()
        self.assertEqual((work.drains(), work.sources()), ([5, 6, 7], [0]))
        told = work.drains()
        told[0] = 3
        self.assertEqual(work.drains(), [5, 6, 7])
        self.assertEqual((work.beat(), work_fields(work)), (12, before))

    def test_lists_changed_afterwards_change_nothing(self):
        belts = one_cell_belts(2)
        knots = lines(2)
        work = Work(belts, knots)
        before = work_fields(work)
        belts.append(Belt(4, 4))
        belts[0] = Belt(5, 3)
        knots.reverse()
        knots.pop()
        self.assertEqual(work_fields(work), before)
        self.assertEqual((work.beat(), work.feeder(0), work.taker(0)), (1, 0, 2))
        self.assertEqual((work.drains(), work.sources()), ([2, 3], [0, 1]))

    def test_lists_handed_in_stay(self):
        belts = one_cell_belts(2)
        knots = lines(2)
        kept = (list(belts), list(knots), [fields_of(thing) for thing in belts + knots])
        Work(belts, knots)
        self.assertEqual((belts, knots, [fields_of(thing) for thing in belts + knots]), kept)

    def test_a_knot_and_a_belt_may_be_used_in_several_works(self):
        belt = Belt(2, 2)
        knots = [Source(0, 2, [4]), drain(0)]
        one = Work([belt], knots)
        other = Work([belt], knots)
        self.assertEqual(work_fields(one), work_fields(other))
        self.assertEqual(one.beat(), 2)
        self.assertEqual(Work([belt, belt], lines(2)).beat(), 2)


if __name__ == "__main__":
    unittest.main()
