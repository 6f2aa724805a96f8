import unittest

from beltshares.belts import Belt
from beltshares.errors import TooLong
from beltshares.knots import Drain, Source
from beltshares.leaps import leapt, origins_of
from beltshares.plays import played
from beltshares.rounds import round_of
from beltshares.shapes import alike
from beltshares.states import State, empty_state
from beltshares.turns import one_turn
from beltshares.works import Work

from tests.samples import (carousel_work, endless_work, filling_work, kept_fields, line_work, long_work, ring_work,
                           sample_works, six_kinds_work, state_fields, work_fields)

FAR = 10 ** 60


class Origins(unittest.TestCase):
    """[5.3]"""

    def test_the_same_state_twice(self):
        for work in sample_works():
            state = played(work, 40)
            wanted = []
            for belt, cells in enumerate(state.cells):
                wanted.append([None if ware is None else ("kept", belt, place) for place, ware in enumerate(cells)])
            self.assertEqual(origins_of(state, state), wanted)
            self.assertEqual(origins_of(state, played(work, 40)), wanted)

    def test_one_turn_apart(self):
        work = line_work(room=3)
        self.assertEqual(origins_of(played(work, 0), played(work, 1)), [[None, ("new", 0, 0), None]])
        self.assertEqual(origins_of(played(work, 1), played(work, 2)), [[None, ("new", 0, 0), ("kept", 0, 1)]])
        self.assertEqual(origins_of(played(work, 9), played(work, 10)), [[None, ("new", 0, 0), ("kept", 0, 1)]])

    def test_several_turns_apart(self):
        work = line_work(room=6)
        self.assertEqual(origins_of(played(work, 8), played(work, 11)), [[
            None, ("new", 0, 2), ("new", 0, 1), ("new", 0, 0), ("kept", 0, 1), ("kept", 0, 2)]])
        self.assertEqual(origins_of(played(work, 8), played(work, 18)), [[
            None, ("new", 0, 9), ("new", 0, 8), ("new", 0, 7), ("new", 0, 6), ("new", 0, 5)]])

    def test_kept_in_their_cells_and_in_others(self):
        before = State(3, [[None, (1, 4)], [(0, 7), None, (1, 3)]], [0, 0], [[8], [5], [0]])
        after = State(9, [[(0, 9), (0, 8)], [(1, 6), (1, 4), (1, 3)]], [0, 0], [[10], [7], [0]])
        self.assertEqual(origins_of(before, after), [
            [("new", 0, 1), ("new", 0, 0)], [("new", 1, 1), ("kept", 0, 1), ("kept", 1, 2)]])

    def test_new_ones_of_several_sources(self):
        work = Work([Belt(2, 1), Belt(2, 1)], [Drain(1, 0), Source(0, 2, [1]), Source(1, 1, [1]), Drain(0, 0)])
        self.assertEqual(origins_of(empty_state(work), played(work, 5)),
                         [[("new", 1, 1), ("new", 1, 0)], [("new", 2, 1), ("new", 2, 0)]])
        self.assertEqual(origins_of(played(work, 1), played(work, 5)),
                         [[("new", 1, 0), ("kept", 0, 1)], [("new", 2, 0), ("kept", 1, 1)]])

    def test_large_counts(self):
        before = State(FAR, [[(0, FAR), None]], [0, 0], [[FAR + 1], [FAR]])
        after = State(FAR + 9, [[(0, FAR + 4), (0, FAR)]], [0, 0], [[FAR + 6], [FAR]])
        self.assertEqual(origins_of(before, after), [[("new", 0, 3), ("kept", 0, 0)]])

    def test_over_plays(self):
        for work in sample_works():
            for first, later in [(0, 30), (7, 8), (20, 33), (33, 90)]:
                before = played(work, first)
                after = played(work, later)
                for belt, origins in enumerate(origins_of(before, after)):
                    for place, origin in enumerate(origins):
                        self.origin_holds(origin, before, after.cells[belt][place])

    def origin_holds(self, origin, before, ware):
        if ware is None:
            self.assertIsNone(origin)
        elif origin[0] == "kept":
            self.assertEqual(before.cells[origin[1]][origin[2]], ware)
        else:
            self.assertEqual((origin[0], origin[1]), ("new", ware[0]))
            self.assertEqual(origin[2], ware[1] - before.gone[ware[0]][0])
            self.assertGreaterEqual(origin[2], 0)

    def test_a_round_apart_the_origins_are_the_same_at_each_round(self):
        for work in sample_works():
            begin, length = round_of(work)
            first = origins_of(played(work, begin), played(work, begin + length))
            second = origins_of(played(work, begin + length), played(work, begin + 2 * length))
            self.assertEqual(first, second)

    def test_the_states_stay_and_the_lists_are_the_askers_own(self):
        work = ring_work()
        before = played(work, 10)
        after = played(work, 20)
        kept = (kept_fields(before), kept_fields(after))
        told = origins_of(before, after)
        copy = repr(told)
        told[0][0] = "x"
        told.pop()
        self.assertEqual(repr(origins_of(before, after)), copy)
        told = origins_of(before, after)
        before.cells[0].clear()
        after.cells.clear()
        self.assertEqual(repr(told), copy)
        self.assertEqual((kept_fields(played(work, 10)), kept_fields(played(work, 20))), kept)


class Leaps(unittest.TestCase):
    """[5.4]"""

    def test_each_turn_of_the_first_hundreds(self):
        for number, work in enumerate(sample_works()):
            state = empty_state(work)
            for turn in range(130):
                with self.subTest(number=number, turn=turn):
                    self.assertEqual(state_fields(leapt(work, turn)), state_fields(state))
                state = one_turn(work, state)

    def test_several_hundred_turns(self):
        for work in [line_work(room=6), ring_work(), carousel_work(), carousel_work(5, 1, [1, 1, 2]), six_kinds_work()]:
            state = played(work, 130)
            for turn in range(130, 400):
                self.assertEqual(state_fields(leapt(work, turn)), state_fields(state))
                state = one_turn(work, state)

    def test_no_turns(self):
        for work in sample_works():
            self.assertEqual(state_fields(leapt(work, 0)), state_fields(empty_state(work)))

    def test_far_turns_by_hand(self):
        self.assertEqual(state_fields(leapt(line_work(), FAR - 1)), (FAR - 1, [[None]], [0, 0], [[FAR - 1], [FAR - 1]]))
        work = line_work(room=3, source_pace=2)
        half = FAR // 2
        self.assertEqual(state_fields(leapt(work, FAR - 2)),
                         (FAR - 2, [[None, None, (0, half - 2)]], [0, 0], [[half - 1], [half - 2]]))
        self.assertEqual(state_fields(leapt(work, FAR - 1)),
                         (FAR - 1, [[None, (0, half - 1), None]], [0, 0], [[half], [half - 1]]))
        full = line_work(room=2, drain_pace=0)
        self.assertEqual(state_fields(leapt(full, FAR - 1)), (FAR - 1, [[(0, 1), (0, 0)]], [0, 0], [[2], [0]]))

    def test_wares_that_go_round_for_ever(self):
        # Two wares four cells apart on their way round: each lies where it lay after each four turns.
        work = carousel_work()
        near = played(work, 100)
        far = leapt(work, 100 + 12 * 10 ** 58)
        self.assertEqual(far.cells, near.cells)
        self.assertNotEqual(leapt(work, 106 + 12 * 10 ** 58).cells, near.cells)
        self.assertTrue(alike(work, leapt(work, 106 + 12 * 10 ** 58), near))
        self.assertEqual(leapt(work, 106 + 12 * 10 ** 58).cells, played(work, 106).cells)
        work = carousel_work(5, 1, [1, 1, 2])
        for more in range(8):
            self.assertEqual(leapt(work, 4 * 10 ** 58 + more).cells, played(work, 100 + more).cells)

    def test_one_turn_on_from_a_leap(self):
        for work in sample_works():
            for turn in [10 ** 3, 10 ** 30 + 7, FAR - 30]:
                state = leapt(work, turn)
                for step in range(1, 30):
                    state = one_turn(work, state)
                    if step % 7 == 1:
                        self.assertEqual(state_fields(leapt(work, turn + step)), state_fields(state))

    def test_a_leap_is_alike_the_round(self):
        for work in sample_works():
            begin, length = round_of(work)
            for turn in [FAR - 1, 10 ** 59 + 3]:
                near = played(work, begin + (turn - begin) % length)
                self.assertTrue(alike(work, leapt(work, turn), near))

    def test_what_holds_of_a_play_holds_of_a_leap(self):
        # [4.6] each ware that a source gave is in one cell or went into a drain.
        for work in sample_works():
            state = leapt(work, FAR - 1)
            lying = [ware for cells in state.cells for ware in cells if ware is not None]
            self.assertEqual(len(lying), len(set(lying)))
            given = sum(state.gone[source][0] for source in work.sources())
            taken = sum(state.gone[drain][0] for drain in work.drains())
            self.assertEqual(given, taken + len(lying))
            for ware in lying:
                self.assertTrue(0 <= ware[1] < state.gone[ware[0]][0])

    def test_too_long_however_few_the_turns(self):
        for turns in [0, 1, 199, 200, 201, 1000, FAR - 1]:
            for handed in [(long_work(), turns), (filling_work(57), turns), (endless_work(), turns, 1000),
                           (line_work(room=2), turns, 1), (long_work(), turns, 719)]:
                with self.assertRaises(TooLong):
                    leapt(*handed)

    def test_limits(self):
        self.assertEqual(state_fields(leapt(filling_work(56), 31)), state_fields(played(filling_work(56), 31)))
        self.assertEqual(state_fields(leapt(filling_work(56), 431)), state_fields(played(filling_work(56), 431)))
        self.assertEqual(leapt(long_work(), 720 * 10 ** 57, 720).gone[0], [180 * 10 ** 57])
        self.assertEqual(leapt(work=line_work(), turns=5, limit=1).gone, [[5], [5]])

    def test_the_work_stays_and_states_share_nothing(self):
        for work in [ring_work(), six_kinds_work()]:
            before = work_fields(work)
            for turn in [5, 100]:
                told = leapt(work, turn)
                copy = kept_fields(told)
                leapt(work, turn).cells[0].clear()
                one_turn(work, told)
                leapt(work, turn + 1)
                self.assertEqual(kept_fields(told), copy)
                told.cells[0].clear()
                told.gone[0].clear()
                told.sides.clear()
                self.assertEqual(kept_fields(leapt(work, turn)), copy)
            self.assertEqual(work_fields(work), before)


if __name__ == "__main__":
    unittest.main()
