import unittest

from beltshares.belts import Belt
from beltshares.knots import Drain, Parter, Source
from beltshares.plays import log_of, played
from beltshares.states import empty_state
from beltshares.turns import moves_of, one_turn
from beltshares.works import Work

from tests.samples import kept_fields, line_work, sample_works, six_kinds_work, state_fields, work_fields


class Plays(unittest.TestCase):
    """[4.5]"""

    def test_no_turns(self):
        for work in sample_works():
            self.assertEqual(state_fields(played(work, 0)), state_fields(empty_state(work)))
            self.assertEqual(log_of(work, 0), [])

    def test_one_turn(self):
        self.assertEqual(state_fields(played(line_work(room=2), 1)), (1, [[None, (0, 0)]], [0, 0], [[1], [0]]))
        self.assertEqual(log_of(line_work(room=2), 1), [[(0, (0, 0), None, 0)]])

    def test_a_log_by_hand(self):
        self.assertEqual(log_of(line_work(room=2, source_pace=2, drain_pace=3), 7), [
            [(0, (0, 0), None, 0)],
            [],
            [(0, (0, 1), None, 0)],
            [(1, (0, 0), 0, None)],
            [(0, (0, 2), None, 0)],
            [],
            [(1, (0, 1), 0, None)],
        ])

    def test_as_turn_by_turn(self):
        for number, work in enumerate(sample_works()):
            state = empty_state(work)
            log = []
            for turn in range(80):
                with self.subTest(number=number, turn=turn):
                    self.assertEqual(kept_fields(played(work, turn)), kept_fields(state))
                log.append(moves_of(work, state))
                state = one_turn(work, state)
            self.assertEqual(log_of(work, 80), log)
            self.assertEqual(log_of(work, 33), log[:33])

    def test_several_hundred_turns(self):
        work = line_work(room=3, source_pace=2, kinds=[4, 5])
        state = played(work, 700)
        self.assertEqual(state_fields(state), (700, [[None, None, (0, 349)]], [0, 0], [[350], [349]]))
        self.assertEqual(played(work, 1000).gone, [[500], [499]])
        log = log_of(work, 1000)
        self.assertEqual((len(log), log[998], log[999]),
                         (1000, [(0, (0, 499), None, 0), (1, (0, 498), 0, None)], []))

    def test_the_work_stays(self):
        work = six_kinds_work()
        before = work_fields(work)
        told = kept_fields(played(work, 50))
        log = log_of(work, 50)
        log[0].clear()
        log.pop()
        played(work, 50).cells.clear()
        self.assertEqual(work_fields(work), before)
        self.assertEqual(kept_fields(played(work, 50)), told)
        self.assertEqual(len(log_of(work, 50)), 50)
        self.assertNotEqual(log_of(work, 50)[0], [])


class Holds(unittest.TestCase):
    """[4.6] what holds at any turn of a play."""

    def test_each_ware_is_in_one_cell_or_went_into_a_drain_once(self):
        for work in sample_works():
            taken = []
            for turn, moves in enumerate(log_of(work, 150)):
                taken.extend(ware for knot, ware, from_belt, to_belt in moves if to_belt is None)
                if turn % 10 == 9:
                    state = played(work, turn + 1)
                    lying = [ware for cells in state.cells for ware in cells if ware is not None]
                    given = [(source, serial) for source in work.sources() for serial in range(state.gone[source][0])]
                    self.assertEqual(sorted(lying + taken), given)

    def test_wares_leave_a_belt_in_the_order_in_which_they_came(self):
        for work in sample_works():
            came = [[] for belt in work.belts]
            left = [[] for belt in work.belts]
            for moves in log_of(work, 200):
                for knot, ware, from_belt, to_belt in moves:
                    if from_belt is not None:
                        left[from_belt].append(ware)
                    if to_belt is not None:
                        came[to_belt].append(ware)
            for belt in range(len(work.belts)):
                self.assertEqual(left[belt], came[belt][:len(left[belt])])

    def test_a_parter_with_free_outs_parts_evenly(self):
        for many in [2, 3, 4]:
            outs = list(range(1, many + 1))
            for room in [1, 2, 3]:
                work = Work([Belt(room, 1) for belt in range(many + 1)],
                            [Source(0, 1, [1])] + [Drain(out, 1) for out in outs] + [Parter(0, outs)])
                for turn in range(60):
                    counts = played(work, turn).gone[-1]
                    self.assertLessEqual(max(counts) - min(counts), 1)
                self.assertGreater(min(counts), 5)


if __name__ == "__main__":
    unittest.main()
