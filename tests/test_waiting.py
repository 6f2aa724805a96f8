import unittest

from beltshares.belts import Belt
from beltshares.errors import Moving, TooLong, WorkError
from beltshares.knots import Drain, FirstParter, Joiner, Parter, Sieve, Source
from beltshares.plays import played
from beltshares.turns import moves_of, one_turn
from beltshares.waiting import still_from, waiting_way
from beltshares.works import Work

from tests.samples import (carousel_work, endless_work, filling_work, line_work, long_work, one_cell_belts, ring_work,
                           sample_works, six_kinds_work, thrown_work, work_fields)


def no_sources_work():
    return Work([Belt(2, 3), Belt(1, 2), Belt(1, 1)], [Parter(0, [1, 2]), Joiner([1, 2], 0)])


def sliding_work():
    """Wares of kind 1 slide on over a slow belt, once one of kind 2 stands before the sieve."""
    return Work([Belt(1, 1), Belt(6, 4), Belt(1, 1)],
                [Source(0, 1, [1, 2]), Sieve(0, [1, 2], 1), Drain(1, 0), Drain(2, 0)])


def full_ring_work(first):
    """A ring of one belt that fills up; the ring has the number 0 or 1, the source's belt the other one."""
    other = 1 - first
    return Work([Belt(3, 1), Belt(3, 1)], [Source(other, 1, [4]), Joiner([first, other], first)])


def shut_work(knot, kinds=(4,), paces=(0, 0)):
    """A source whose wares a knot sends onto the belts 1 and 2, to shut drains if not told otherwise."""
    return Work(one_cell_belts(3), [Source(0, 1, list(kinds)), knot, Drain(1, paces[0]), Drain(2, paces[1])])


def still_works():
    """Works that come to stand still, with the turn, the way and the ring of each."""
    return [
        (no_sources_work(), 0, [], None),
        (line_work(drain_pace=0), 1, [0], None),
        (line_work(room=6, source_pace=1, drain_pace=0), 6, [0], None),
        (line_work(room=3, source_pace=4, drain_pace=0), 9, [0], None),
        (sliding_work(), 17, [0, 2], None),
        (full_ring_work(0), 7, [0], 0),
        (full_ring_work(1), 7, [0, 1], 1),
        (shut_work(Parter(0, [1, 2])), 3, [0, 1], None),
        (shut_work(Parter(0, [2, 1])), 3, [0, 2], None),
        (shut_work(FirstParter(0, [1, 2])), 3, [0, 1], None),
        (shut_work(FirstParter(0, [2, 1])), 3, [0, 2], None),
        (shut_work(Sieve(0, [1, 2], 4)), 2, [0, 1], None),
        (shut_work(Sieve(0, [1, 2], 5)), 2, [0, 2], None),
        (shut_work(Sieve(0, [1, 2], 0), kinds=[0]), 2, [0, 1], None),
        (shut_work(Sieve(0, [1, 2], 0), kinds=[0, 4, 4, 4]), 3, [0, 2], None),
        (shut_work(Sieve(0, [1, 2], 4), kinds=[4], paces=[0, 1]), 2, [0, 1], None),
    ]


def long_ring_work(sieve):
    """A ring over the belts 1, 2, 4 and 6, through each kind of knot that has both ins and outs."""
    return Work(one_cell_belts(8), [
        Source(0, 1, [6]), Joiner([6, 0], 1), Parter(1, [2, 3]), FirstParter(2, [4, 5]), sieve,
        Drain(3, 0), Drain(5, 0), Drain(7, 0)])


class StillFrom(unittest.TestCase):
    """[7.1]"""

    def test_works_that_come_to_stand_still(self):
        for place, (work, turn, way, ring) in enumerate(still_works()):
            with self.subTest(place=place):
                self.assertEqual(still_from(work), turn)

    def test_works_that_move_for_ever(self):
        for work in [line_work(), line_work(room=6, source_pace=4, drain_pace=3), ring_work(), carousel_work(),
                     carousel_work(5, 1, [1, 1, 2]), six_kinds_work(), six_kinds_work(shut=True),
                     shut_work(Sieve(0, [1, 2], 4), paces=[1, 0])]:
            self.assertIsNone(still_from(work))

    def test_a_standing_between_moves_is_none(self):
        # Nothing moves at the turns 1 to 3, and again at 5 to 7.
        self.assertIsNone(still_from(line_work(source_pace=4)))
        # Nothing moves at turn 2, ahead of the last ware at turn 4.
        self.assertEqual(still_from(line_work(room=2, source_pace=4, drain_pace=0)), 5)

    def test_wares_that_move_on_a_belt_while_no_knot_moves_one(self):
        work = sliding_work()
        self.assertEqual([moves_of(work, played(work, turn)) for turn in range(4, 20)], [[]] * 16)
        self.assertNotEqual(played(work, 16).cells, played(work, 17).cells)
        self.assertEqual(still_from(work), 17)

    def test_by_the_words_of_the_document(self):
        seen = [0, 0]
        works = sample_works() + [thrown_work(seed) for seed in range(30)] + [told[0] for told in still_works()]
        for work in works:
            state = played(work, 0)
            last = None
            for turn in range(1000):
                after = one_turn(work, state)
                if (after.cells, after.gone) != (state.cells, state.gone):
                    last = turn
                state = after
            turn = still_from(work, 1000)
            seen[turn is None] += 1
            if turn is None:
                self.assertGreater(last, 950)
            else:
                self.assertEqual(turn, 0 if last is None else last + 1)
        self.assertTrue(min(seen) > 20)

    def test_limits(self):
        self.assertIsNone(still_from(filling_work(56)))
        for handed in [(filling_work(57),), (long_work(),), (endless_work(), 1000), (line_work(drain_pace=0), 1),
                       (filling_work(50, 4, False),), (line_work(room=2), 1)]:
            with self.assertRaises(TooLong) as caught:
                still_from(*handed)
            self.assertIsInstance(caught.exception, WorkError)
        self.assertEqual(still_from(filling_work(66, 3, False)), 196)
        self.assertEqual(still_from(work=filling_work(50, 4, False), limit=201), 197)
        self.assertEqual(still_from(line_work(drain_pace=0), 2), 1)
        self.assertIsNone(still_from(line_work(), 1))


class WaitingWay(unittest.TestCase):
    """[7.2]"""

    def test_ways_and_rings(self):
        for place, (work, turn, way, ring) in enumerate(still_works()):
            with self.subTest(place=place):
                self.assertEqual(waiting_way(work), (way, ring))

    def test_the_first_belt_by_number(self):
        lines = [Source(1, 1, [1]), Source(2, 1, [1]), Drain(1, 0), Drain(2, 0), Parter(0, [3, 4]), Joiner([3, 4], 0)]
        self.assertEqual(waiting_way(Work(one_cell_belts(5), lines)), ([1], None))

    def test_the_first_belt_may_have_empty_cells_ahead_of_its_wares(self):
        work = Work([Belt(6, 4), Belt(1, 1), Belt(1, 1)],
                    [Source(1, 1, [1, 2]), Sieve(1, [0, 2], 1), Drain(0, 0), Drain(2, 0)])
        self.assertEqual(played(work, 17).cells[0], [None] * 4 + [(0, 2), (0, 0)])
        self.assertEqual((still_from(work), waiting_way(work)), (17, ([0], None)))

    def test_a_ring_at_the_first_place(self):
        # The joiner's belt 0 and the parter's belt 1 wait for one another.
        work = Work(one_cell_belts(4), [Source(3, 1, [1]), Joiner([1, 3], 0), Parter(0, [1, 2]), Drain(2, 0)])
        self.assertEqual(waiting_way(work), ([0, 1], 0))

    def test_a_ring_at_a_later_place(self):
        work = Work(one_cell_belts(4), [Source(0, 1, [1]), Joiner([2, 0], 1), Parter(1, [2, 3]), Drain(3, 0)])
        self.assertEqual(waiting_way(work), ([0, 1, 2], 1))

    def test_a_ring_behind_several_belts(self):
        belts = [Belt(2, 1), Belt(1, 2), Belt(3, 1), Belt(2, 1), Belt(1, 1), Belt(1, 1)]
        work = Work(belts, [Source(0, 2, [3]), FirstParter(0, [1, 4]), Joiner([1, 3], 2), Parter(2, [3, 5]),
                            Drain(4, 0), Drain(5, 0)])
        self.assertEqual(waiting_way(work), ([0, 1, 2, 3], 2))

    def test_a_ring_through_each_kind_of_knot(self):
        self.assertEqual(waiting_way(long_ring_work(Sieve(4, [6, 7], 6))), ([0, 1, 2, 4, 6], 1))
        self.assertEqual(waiting_way(long_ring_work(Sieve(4, [7, 6], 5))), ([0, 1, 2, 4, 6], 1))
        self.assertEqual(waiting_way(long_ring_work(Sieve(4, [7, 6], 6))), ([0, 1, 2, 4, 7], None))

    def test_by_the_kind_of_the_ware_at_the_end(self):
        # The ware at the end of belt 0 is of kind 5, those behind it are of kind 4.
        work = Work([Belt(3, 1), Belt(1, 1), Belt(1, 1)], [
            Source(0, 1, [5, 5, 4, 4, 4, 4]), Sieve(0, [1, 2], 4), Drain(1, 1), Drain(2, 0)])
        self.assertEqual(waiting_way(work), ([0, 2], None))

    def test_what_holds_of_each_way(self):
        seen = [0, 0]
        works = [told[0] for told in still_works()] + sample_works() + [thrown_work(seed) for seed in range(60)]
        for work in works:
            turn = still_from(work, 1000)
            if turn is None:
                continue
            way, ring = waiting_way(work, 1000)
            cells = played(work, turn).cells
            laden = [belt for belt in range(len(cells)) if any(cells[belt])]
            self.assertEqual(way[:1], laden[:1])
            self.assertEqual(len(way), len(set(way)))
            for belt in way[:1]:
                self.assertIsNotNone(cells[belt][-1])
            for belt in way[1:]:
                self.assertNotIn(None, cells[belt])
            for belt, onward in zip(way, way[1:]):
                self.assertEqual(work.taker(belt), work.feeder(onward))
            if ring is not None:
                self.assertEqual(work.taker(way[-1]), work.feeder(way[ring]))
            elif way:
                self.assertEqual(work.knots[work.taker(way[-1])].pace, 0)
                self.assertIsInstance(work.knots[work.taker(way[-1])], Drain)
            if way:
                seen[ring is None] += 1
        self.assertTrue(min(seen) > 2)

    def refused(self, error, *handed):
        with self.assertRaises(error) as caught:
            waiting_way(*handed)
        self.assertIsInstance(caught.exception, WorkError)

    def test_moving(self):
        for work in [line_work(), ring_work(), carousel_work(), six_kinds_work(shut=True), filling_work(56)]:
            self.refused(Moving, work)

    def test_too_long_and_too_long_first(self):
        for handed in [(filling_work(57),), (long_work(),), (endless_work(), 1000), (line_work(room=2), 1),
                       (line_work(drain_pace=0), 1), (filling_work(50, 4, False),)]:
            self.refused(TooLong, *handed)

    def test_limits(self):
        self.assertEqual(waiting_way(filling_work(66, 3, False)), ([0, 1, 5], None))
        self.assertEqual(waiting_way(work=filling_work(50, 4, False), limit=201), ([0, 1, 5], None))
        self.assertEqual(waiting_way(line_work(drain_pace=0), 2), ([0], None))
        self.refused(Moving, line_work(), 1)

    def test_told_lists_are_the_askers_own_and_the_work_stays(self):
        work = full_ring_work(1)
        before = work_fields(work)
        waiting_way(work)[0].clear()
        told = waiting_way(work)
        self.assertEqual(told, ([0, 1], 1))
        self.assertIsInstance(told, tuple)
        told[0].append(5)
        self.assertEqual(waiting_way(work), ([0, 1], 1))
        self.assertEqual(work_fields(work), before)
        empty = waiting_way(no_sources_work())
        empty[0].append(1)
        self.assertEqual(waiting_way(no_sources_work()), ([], None))


if __name__ == "__main__":
    unittest.main()
