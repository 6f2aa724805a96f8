import unittest

from beltshares.belts import Belt
from beltshares.knots import Drain, FirstParter, Joiner, Parter, Sieve, Source
from beltshares.states import State, empty_state, kind_of
from beltshares.turns import moves_of, one_turn
from beltshares.works import Work

from tests.samples import (kept_fields, line_work, one_cell_belts, six_kinds_work, state_fields, thrown_work,
                           work_fields)

FAR = 10 ** 60


def wares(source, *serials):
    """A belt's cells: the wares of one source with these serials, None where there is none."""
    return [None if serial is None else (source, serial) for serial in serials]


class TurnTest(unittest.TestCase):
    def goes(self, work, state, cells, sides, gone, moves):
        """One turn on from a state, which stays as it is."""
        before = (kept_fields(state), work_fields(work))
        self.assertEqual(moves_of(work, state), moves)
        after = one_turn(work, state)
        self.assertEqual(state_fields(after), (state.turn + 1, cells, sides, gone))
        self.assertEqual((kept_fields(state), work_fields(work)), before)
        return after


class Lines(TurnTest):
    """[4.3], [4.4] sources, belts and drains."""

    def test_through_a_belt_of_one_cell_in_one_turn(self):
        state = self.goes(line_work(), empty_state(line_work()), [[None]], [0, 0], [[1], [1]],
                          [(0, (0, 0), None, 0), (1, (0, 0), 0, None)])
        self.goes(line_work(), state, [[None]], [0, 0], [[2], [2]],
                  [(0, (0, 1), None, 0), (1, (0, 1), 0, None)])

    def test_not_where_the_drain_comes_first(self):
        work = Work(one_cell_belts(1), [Drain(0, 1), Source(0, 1, [7])])
        state = self.goes(work, empty_state(work), [[(1, 0)]], [0, 0], [[0], [1]], [(1, (1, 0), None, 0)])
        self.goes(work, state, [[(1, 1)]], [0, 0], [[1], [2]], [(0, (1, 0), 0, None), (1, (1, 1), None, 0)])

    def test_a_belt_of_three_cells(self):
        work = line_work(room=3)
        state = empty_state(work)
        state = self.goes(work, state, [wares(0, None, 0, None)], [0, 0], [[1], [0]], [(0, (0, 0), None, 0)])
        state = self.goes(work, state, [wares(0, None, 1, 0)], [0, 0], [[2], [0]], [(0, (0, 1), None, 0)])
        state = self.goes(work, state, [wares(0, None, 2, 1)], [0, 0], [[3], [1]],
                          [(0, (0, 2), None, 0), (1, (0, 0), 0, None)])
        self.goes(work, state, [wares(0, None, 3, 2)], [0, 0], [[4], [2]],
                  [(0, (0, 3), None, 0), (1, (0, 1), 0, None)])

    def test_a_belt_of_pace_2(self):
        work = line_work(room=3, pace=2)
        state = empty_state(work)
        state = self.goes(work, state, [wares(0, None, 0, None)], [0, 0], [[1], [0]], [(0, (0, 0), None, 0)])
        state = self.goes(work, state, [wares(0, 1, 0, None)], [0, 0], [[2], [0]], [(0, (0, 1), None, 0)])
        state = self.goes(work, state, [wares(0, None, 1, 0)], [0, 0], [[2], [0]], [])
        state = self.goes(work, state, [wares(0, 2, 1, None)], [0, 0], [[3], [1]],
                          [(0, (0, 2), None, 0), (1, (0, 0), 0, None)])
        self.goes(work, state, [wares(0, None, 2, 1)], [0, 0], [[3], [1]], [])

    def test_a_shut_drain_fills_the_belt(self):
        work = line_work(room=2, drain_pace=0)
        state = empty_state(work)
        state = self.goes(work, state, [wares(0, None, 0)], [0, 0], [[1], [0]], [(0, (0, 0), None, 0)])
        state = self.goes(work, state, [wares(0, 1, 0)], [0, 0], [[2], [0]], [(0, (0, 1), None, 0)])
        self.goes(work, state, [wares(0, 1, 0)], [0, 0], [[2], [0]], [])

    def test_each_room_and_pace(self):
        for room in range(1, 7):
            for pace in range(1, 5):
                work = line_work(room=room, pace=pace, drain_pace=0)
                for turn in list(range(5)) + [FAR, 12 * FAR, 12 * FAR + 1]:
                    for place in range(room):
                        cells = [None] * room
                        cells[place] = (0, 4)
                        moved = list(cells)
                        if turn % pace == 0 and place < room - 1:
                            moved[place] = None
                            moved[place + 1] = (0, 4)
                        gives = place > 0
                        if gives:
                            # The new ware is ahead of the belt's move on cell 0, and goes on where it can.
                            goes_on = turn % pace == 0 and moved[1] is None
                            moved[1 if goes_on else 0] = (0, 5)
                        state = State(turn, [cells], [0, 0], [[5], [0]])
                        with self.subTest(room=room, pace=pace, turn=turn, place=place):
                            self.goes(work, state, [moved], [0, 0], [[6 if gives else 5], [0]],
                                      [(0, (0, 5), None, 0)] if gives else [])

    def test_gaps_close_from_the_end_back(self):
        work = line_work(room=6, drain_pace=0)
        for before, after in [
            ([5, None, 4, None, None, 3], [None, 5, None, 4, None, 3]),
            ([5, 4, None, 3, 2, 1], [None, 5, 4, 3, 2, 1]),
            ([5, 4, 3, 2, 1, None], [None, 5, 4, 3, 2, 1]),
            ([5, 4, 3, None, 2, None], [None, 5, 4, 3, None, 2]),
            ([5, 4, 3, 2, 1, 0], [5, 4, 3, 2, 1, 0]),
            ([5, None, None, None, None, None], [None, 5, None, None, None, None]),
        ]:
            state = State(8, [wares(0, *before)], [0, 0], [[6], [0]])
            self.goes(work, state, [wares(0, *after)], [0, 0], [[6], [0]], [])

    def test_paces_of_source_and_drain(self):
        work = line_work(source_pace=2, drain_pace=3, kinds=[1, 2])
        state = empty_state(work)
        told = []
        for turn in range(9):
            told.append([move[0] for move in moves_of(work, state)])
            state = one_turn(work, state)
        self.assertEqual(told, [[0, 1], [], [0], [1], [0], [], [1], [], [0]])
        self.assertEqual(state_fields(state), (9, [[(0, 3)]], [0, 0], [[4], [3]]))

    def test_large_turns_and_counts(self):
        work = line_work(room=2, source_pace=2, kinds=[1, 2, 3])
        many = 10 ** 70 - 2
        state = State(FAR, [wares(0, None, many - 1)], [0, 0], [[many], [many - 1]])
        state = self.goes(work, state, [wares(0, None, many)], [0, 0], [[many + 1], [many]],
                          [(0, (0, many), None, 0), (1, (0, many - 1), 0, None)])
        self.assertEqual(state.turn, FAR + 1)
        self.goes(work, state, [wares(0, None, None)], [0, 0], [[many + 1], [many + 1]], [(1, (0, many), 0, None)])


class Knots(TurnTest):
    """[4.3], [4.4] what goes through each kind of knot."""

    def fork(self, knot):
        """A work of a knot of three outs to shut drains, which its source feeds with kinds 5, 6 by turns."""
        belts = [Belt(2, 1)] + [Belt(1, 1) for out in knot.outs]
        return Work(belts, [knot, Source(0, 1, [5, 6])] + [Drain(out, 0) for out in knot.outs])

    def forked(self, work, out_cells, side, gone):
        """A state of such a work with the ware of serial 8 at the fork and given ones on the outs."""
        many = len(out_cells)
        cells = [wares(1, 9, 8)] + [wares(1, serial) for serial in out_cells]
        return State(6, cells, [side, 0] + [0] * many, [gone, [10]] + [[0]] * many)

    def after_fork(self, work, state, place, side):
        """The ware at the fork goes onto the out at a place, and nothing else but the belt behind it moves."""
        cells = [wares(1, None, 9)] + [list(cells) for cells in state.cells[1:]]
        cells[place + 1] = [(1, 8)]
        gone = [list(counts) for counts in state.gone]
        gone[0][place] += 1
        # The fork leaves the end of its belt, but its begin is only free once the belt has moved.
        self.goes(work, state, cells, [side] + state.sides[1:], gone, [(0, (1, 8), 0, place + 1)])

    def test_parter(self):
        work = self.fork(Parter(0, [1, 2, 3]))
        for full, side, place, following in [
            ([None, None, None], 0, 0, 1), ([None, None, None], 1, 1, 2), ([None, None, None], 2, 2, 0),
            ([None, 1, 2], 1, 0, 1), ([3, None, 4], 2, 1, 2), ([3, 4, None], 0, 2, 0), ([3, None, None], 0, 1, 2),
        ]:
            with self.subTest(full=full, side=side):
                self.after_fork(work, self.forked(work, full, side, [7, 8, 9]), place, following)

    def test_first_parter(self):
        work = self.fork(FirstParter(0, [1, 2, 3]))
        for full, place in [([None, None, None], 0), ([None, 1, 2], 0), ([3, None, None], 1), ([3, 4, None], 2)]:
            with self.subTest(full=full):
                self.after_fork(work, self.forked(work, full, 0, [7, 8, 9]), place, 0)

    def test_sieve(self):
        for kind, full, place in [(5, [None, None], 0), (5, [None, 1], 0), (6, [None, None], 1), (6, [1, None], 1)]:
            work = self.fork(Sieve(0, [1, 2], kind))
            with self.subTest(kind=kind, full=full):
                self.after_fork(work, self.forked(work, full, 0, [7, 8]), place, 0)

    def test_nothing_moves_where_no_out_is_free(self):
        for knot, full in [(Parter(0, [1, 2, 3]), [1, 2, 3]), (FirstParter(0, [1, 2, 3]), [1, 2, 3]),
                           (Sieve(0, [1, 2], 5), [1, None]), (Sieve(0, [1, 2], 6), [None, 1])]:
            work = self.fork(knot)
            state = self.forked(work, full, 0, [7] * len(full))
            self.goes(work, state, state.cells, state.sides, state.gone, [])

    def test_nothing_moves_where_there_is_no_ware(self):
        for knot in [Parter(0, [1, 2, 3]), FirstParter(0, [1, 2, 3]), Sieve(0, [1, 2], 5)]:
            belts = [Belt(1, 1) for belt in range(len(knot.outs) + 1)]
            work = Work(belts, [knot, Source(0, 2, [5])] + [Drain(out, 1) for out in knot.outs])
            gone = [[1] * len(knot.outs)] + [[9]] * len(belts)
            state = State(1, [[None] for belt in belts], [1] + [0] * len(belts), gone)
            self.goes(work, state, state.cells, state.sides, state.gone, [])

    def test_joiner(self):
        belts = one_cell_belts(4)
        work = Work(belts, [Joiner([2, 0, 1], 3), Drain(3, 0), Source(0, 4, [5]), Source(1, 4, [5]), Source(2, 4, [5])])
        # By the belts' numbers: belt 0 is at place 1 of the ins, belt 1 at place 2, belt 2 at place 0.
        for there, side, place, belt, following in [
            ([0, 1, 2], 0, 0, 2, 1), ([0, 1, 2], 1, 1, 0, 2), ([0, 1, 2], 2, 2, 1, 0),
            ([0], 2, 1, 0, 2), ([1], 0, 2, 1, 0), ([2], 1, 0, 2, 1), ([0, 2], 2, 0, 2, 1),
        ]:
            cells = [[(number + 2, 5)] if number in there else [None] for number in range(3)] + [[None]]
            state = State(3, cells, [side, 0, 0, 0, 0], [[1, 2, 3], [0], [6], [6], [6]])
            ware = cells[belt][0]
            after = [list(belt_cells) for belt_cells in cells]
            after[belt] = [None]
            after[3] = [ware]
            counts = [1, 2, 3]
            counts[place] += 1
            with self.subTest(there=there, side=side):
                self.goes(work, state, after, [following, 0, 0, 0, 0], [counts, [0], [6], [6], [6]],
                          [(0, ware, belt, 3)])

    def test_joiner_with_a_full_out_or_no_ware(self):
        work = Work(one_cell_belts(3), [Joiner([0, 1], 2), Drain(2, 0), Source(0, 4, [5]), Source(1, 4, [5])])
        for cells in [[[(2, 0)], [(3, 0)], [(2, 1)]], [[None], [None], [None]], [[None], [None], [(2, 1)]]]:
            state = State(3, cells, [1, 0, 0, 0], [[1, 0], [0], [2], [1]])
            self.goes(work, state, cells, [1, 0, 0, 0], [[1, 0], [0], [2], [1]], [])

    def test_the_kinds_that_choice_sees_are_the_wares_own(self):
        work = Work(one_cell_belts(4), [Source(0, 1, [3, 0]), Sieve(0, [1, 2], 0), Drain(1, 0), Drain(2, 0),
                                        Source(3, 1, [0]), Drain(3, 0)])
        cells = [[None]] * 4
        for given, out in [(0, 2), (1, 1), (FAR, 2), (FAR + 1, 1)]:
            state = State(0, cells, [0] * 6, [[given], [0, 0], [0], [0], [0], [0]])
            self.assertEqual(moves_of(work, state)[1], (1, (0, given), 0, out))


class Order(TurnTest):
    """[4.3] knots act in the order of their numbers, each on the cells as those ahead left them."""

    def chain(self, knots):
        """Source, parter, joiner and drain over belts of one cell, in any order of the knots."""
        return Work(one_cell_belts(4), knots)

    def test_a_ware_through_all_knots_in_one_turn(self):
        work = self.chain([Source(0, 1, [9]), Parter(0, [1, 2]), Joiner([1, 2], 3), Drain(3, 1)])
        state = self.goes(work, empty_state(work), [[None]] * 4, [0, 1, 1, 0], [[1], [1, 0], [1, 0], [1]],
                          [(0, (0, 0), None, 0), (1, (0, 0), 0, 1), (2, (0, 0), 1, 3), (3, (0, 0), 3, None)])
        self.goes(work, state, [[None]] * 4, [0, 0, 0, 0], [[2], [1, 1], [1, 1], [2]],
                  [(0, (0, 1), None, 0), (1, (0, 1), 0, 2), (2, (0, 1), 2, 3), (3, (0, 1), 3, None)])

    def test_one_step_a_turn_in_the_order_turned_round(self):
        work = self.chain([Drain(3, 1), Joiner([1, 2], 3), Parter(0, [1, 2]), Source(0, 1, [9])])
        state = empty_state(work)
        state = self.goes(work, state, [[(3, 0)], [None], [None], [None]], [0, 0, 0, 0], [[0], [0, 0], [0, 0], [1]],
                          [(3, (3, 0), None, 0)])
        state = self.goes(work, state, [[(3, 1)], [(3, 0)], [None], [None]], [0, 0, 1, 0],
                          [[0], [0, 0], [1, 0], [2]], [(2, (3, 0), 0, 1), (3, (3, 1), None, 0)])
        state = self.goes(work, state, [[(3, 2)], [None], [(3, 1)], [(3, 0)]], [0, 1, 0, 0],
                          [[0], [1, 0], [1, 1], [3]],
                          [(1, (3, 0), 1, 3), (2, (3, 1), 0, 2), (3, (3, 2), None, 0)])
        self.goes(work, state, [[(3, 3)], [(3, 2)], [None], [(3, 1)]], [0, 0, 1, 0], [[1], [1, 1], [2, 1], [4]],
                  [(0, (3, 0), 3, None), (1, (3, 1), 2, 3), (2, (3, 2), 0, 1), (3, (3, 3), None, 0)])

    def test_a_cell_is_free_once_a_knot_ahead_has_taken_from_it(self):
        ahead = Work(one_cell_belts(1), [Drain(0, 1), Source(0, 1, [9])])
        self.goes(ahead, State(1, [[(1, 0)]], [0, 0], [[0], [1]]), [[(1, 1)]], [0, 0], [[1], [2]],
                  [(0, (1, 0), 0, None), (1, (1, 1), None, 0)])
        behind = Work(one_cell_belts(1), [Source(0, 1, [9]), Drain(0, 1)])
        self.goes(behind, State(1, [[(0, 0)]], [0, 0], [[1], [0]]), [[None]], [0, 0], [[1], [1]],
                  [(1, (0, 0), 0, None)])

    def test_a_ring_of_two_cells_goes_round(self):
        work = Work([Belt(2, 1), Belt(1, 1)], [Joiner([0, 1], 0), Source(1, 4, [9])])
        state = State(1, [wares(1, None, 0), [None]], [1, 0], [[3, 1], [1]])
        state = self.goes(work, state, [wares(1, None, 0), [None]], [1, 0], [[4, 1], [1]], [(0, (1, 0), 0, 0)])
        full = State(1, [wares(1, 1, 0), wares(1, 2)], [0, 0], [[3, 3], [3]])
        self.goes(work, full, [wares(1, 1, 0), wares(1, 2)], [0, 0], [[3, 3], [3]], [])

    def test_a_ring_of_one_cell_stands(self):
        work = Work(one_cell_belts(2), [Parter(0, [0, 1]), Drain(1, 0)])
        state = empty_state(work)
        self.goes(work, state, [[None], [None]], [0, 0], [[0, 0], [0]], [])

    def test_belts_move_behind_all_knots(self):
        work = Work([Belt(2, 1), Belt(2, 1), Belt(2, 1)], [
            Source(0, 1, [9]), Parter(0, [1, 2]), Drain(1, 1), Drain(2, 1)])
        state = empty_state(work)
        for turn in range(3):
            state = one_turn(work, state)
        self.assertEqual(state_fields(state), (3, [wares(0, None, 2), [None, None], wares(0, None, 1)],
                                               [0, 0, 0, 0], [[3], [1, 1], [1], [0]]))


def retold_turn(work, state):
    """One turn, told once more by other means: the wares in a dict by their cells, and no choice asked."""
    lying = {}
    for belt, cells in enumerate(state.cells):
        for place, ware in enumerate(cells):
            if ware is not None:
                lying[belt, place] = ware
    sides = list(state.sides)
    gone = [list(counts) for counts in state.gone]
    moves = []
    for number, knot in enumerate(work.knots):
        ends = [(belt, work.belts[belt].room - 1) for belt in knot.ins]
        ready = [place for place, end in enumerate(ends) if end in lying]
        free = [place for place, belt in enumerate(knot.outs) if (belt, 0) not in lying]
        name = type(knot).__name__
        many = len(gone[number])
        if name in ["Source", "Drain"] and (knot.pace == 0 or state.turn % knot.pace):
            continue
        if (knot.ins and not ready) or (knot.outs and not free):
            continue
        place = 0
        if name == "Parter":
            place = min(free, key=lambda out: (out - sides[number]) % many)
        elif name == "FirstParter":
            place = free[0]
        elif name == "Joiner":
            place = min(ready, key=lambda into: (into - sides[number]) % many)
        elif name == "Sieve":
            place = int(kind_of(work, lying[ends[0]]) != knot.kind)
            if place not in free:
                continue
        if name in ["Parter", "Joiner"]:
            sides[number] = 0 if place == many - 1 else place + 1
        into = ends[place if name == "Joiner" else 0] if ends else None
        ware = lying.pop(into) if ends else (number, gone[number][0])
        out = knot.outs[0 if name == "Joiner" else place] if knot.outs else None
        if out is not None:
            lying[out, 0] = ware
        gone[number][place] += 1
        moves.append((number, ware, into[0] if ends else None, out))
    for belt, place in sorted(lying, reverse=True):
        onward = (belt, place + 1)
        if state.turn % work.belts[belt].pace == 0 and place + 1 < work.belts[belt].room and onward not in lying:
            lying[onward] = lying.pop((belt, place))
    cells = [[lying.get((belt, place)) for place in range(work.belts[belt].room)] for belt in range(len(work.belts))]
    return (state.turn + 1, cells, sides, gone), moves


class Retold(unittest.TestCase):
    """[4.3], [4.4] over plays of many works."""

    def test_thrown_works(self):
        for work in [six_kinds_work(), six_kinds_work(shut=True)] + [thrown_work(seed) for seed in range(60)]:
            state = empty_state(work)
            for turn in range(60):
                wanted = retold_turn(work, state)
                self.assertEqual(moves_of(work, state), wanted[1])
                state = one_turn(work, state)
                self.assertEqual(state_fields(state), wanted[0])

    def test_far_turns(self):
        work = six_kinds_work()
        for turn in [FAR, 10 ** 61 - 20]:
            near = empty_state(work)
            state = State(turn, near.cells, near.sides, near.gone)
            for step in range(40):
                wanted = retold_turn(work, state)
                self.assertEqual(moves_of(work, state), wanted[1])
                state = one_turn(work, state)
                self.assertEqual(state_fields(state), wanted[0])


class Kept(unittest.TestCase):
    """[0.2] what is handed in and what is told."""

    def test_told_states_share_nothing(self):
        work = six_kinds_work()
        state = one_turn(work, empty_state(work))
        before = kept_fields(state)
        after = one_turn(work, state)
        told = kept_fields(after)
        for cells in after.cells:
            cells[0] = (0, 99)
        after.sides.clear()
        for counts in after.gone:
            counts[0] = 99
        self.assertEqual(kept_fields(state), before)
        self.assertEqual(kept_fields(one_turn(work, state)), told)

    def test_told_moves_are_the_askers_own(self):
        work = line_work()
        state = empty_state(work)
        told = moves_of(work, state)
        told.clear()
        self.assertEqual(moves_of(work, state), [(0, (0, 0), None, 0), (1, (0, 0), 0, None)])

    def test_states_changed_afterwards_change_nothing(self):
        work = line_work(room=2, drain_pace=0)
        state = empty_state(work)
        after = one_turn(work, state)
        told = kept_fields(after)
        one_turn(work, after)
        moves_of(work, after)
        state.cells[0][0] = (0, 77)
        state.gone[0][0] = 78
        self.assertEqual(kept_fields(after), told)


if __name__ == "__main__":
    unittest.main()
