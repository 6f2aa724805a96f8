import unittest

from beltshares.belts import Belt
from beltshares.knots import Drain, FirstParter, Joiner, Parter, Source
from beltshares.states import State, empty_state, kind_of
from beltshares.works import Work

from tests.samples import MOST_KIND, line_work, one_cell_belts, six_kinds_work, state_fields, thrown_work, work_fields


class KindOf(unittest.TestCase):
    """[4.1]"""

    def test_serials_below_at_and_above_the_number_of_kinds(self):
        work = line_work(kinds=[4, 0, 9])
        self.assertEqual([kind_of(work, (0, serial)) for serial in range(8)], [4, 0, 9, 4, 0, 9, 4, 0])

    def test_one_kind(self):
        work = line_work(kinds=[MOST_KIND])
        self.assertEqual([kind_of(work, (0, serial)) for serial in [0, 1, 2, 10 ** 60]], [MOST_KIND] * 4)

    def test_large_serials(self):
        work = line_work(kinds=[1, 2, 3, 4, 5, 6])
        for serial in [6 * 10 ** 59, 6 * 10 ** 69]:
            self.assertEqual([kind_of(work, (0, serial + more)) for more in range(7)], [1, 2, 3, 4, 5, 6, 1])
            self.assertEqual(kind_of(work, (0, serial - 1)), 6)

    def test_each_source_has_its_own_kinds(self):
        work = Work(one_cell_belts(2), [Drain(0, 1), Source(0, 1, [7, 8]), Drain(1, 1), Source(1, 1, [0, 7, 8])])
        self.assertEqual([kind_of(work, (1, serial)) for serial in range(4)], [7, 8, 7, 8])
        self.assertEqual([kind_of(work, (3, serial)) for serial in range(4)], [0, 7, 8, 0])

    def test_the_same_kind_twice(self):
        work = line_work(kinds=[5, 5, 6])
        self.assertEqual([kind_of(work, (0, serial)) for serial in range(6)], [5, 5, 6, 5, 5, 6])


class States(unittest.TestCase):
    """[4.2]"""

    def test_fields(self):
        state = State(10 ** 60, [[None, (0, 3)], [(0, 2)]], [0, 2], [[4], [1, 0]])
        self.assertEqual(state_fields(state), (10 ** 60, [[None, (0, 3)], [(0, 2)]], [0, 2], [[4], [1, 0]]))

    def test_copies_within_the_lists_too(self):
        cells = [[None, (0, 3)], [(0, 2)]]
        sides = [0, 2]
        gone = [[4], [1, 0]]
        state = State(5, cells, sides, gone)
        cells[0][0] = (0, 1)
        cells[1].append(None)
        cells.append([])
        sides[1] = 3
        sides.append(1)
        gone[0][0] = 9
        gone[1].clear()
        gone.pop()
        self.assertEqual(state_fields(state), (5, [[None, (0, 3)], [(0, 2)]], [0, 2], [[4], [1, 0]]))

    def test_what_is_handed_in_stays(self):
        cells = [[None, (0, 3)]]
        sides = [1]
        gone = [[4, 2]]
        State(5, cells, sides, gone)
        self.assertEqual((cells, sides, gone), ([[None, (0, 3)]], [1], [[4, 2]]))

    def test_one_list_handed_in_for_several_belts(self):
        cells = [None]
        state = State(0, [cells, cells], [0, 0], [cells, cells])
        state.cells[0][0] = (0, 0)
        self.assertEqual((state.cells, state.gone), ([[(0, 0)], [None]], [[None], [None]]))


class EmptyState(unittest.TestCase):
    """[4.2] the empty state."""

    def test_all_six(self):
        state = empty_state(six_kinds_work())
        self.assertEqual(state.turn, 0)
        self.assertEqual(state.cells, [[None] * room for room in [2, 1, 3, 2, 1, 2, 6, 1]])
        self.assertEqual(state.sides, [0] * 8)
        self.assertEqual(state.gone, [[0], [0, 0], [0, 0], [0, 0], [0, 0], [0], [0], [0]])

    def test_three_and_four_outs_and_ins(self):
        belts = [Belt(room, 1) for room in [1, 2, 3, 4, 5, 6, 1, 1, 1]]
        work = Work(belts, [FirstParter(0, [1, 2, 3, 4]), Joiner([1, 2, 3], 5), Parter(5, [6, 7, 8]),
                            Joiner([4, 6, 7, 8], 0)])
        state = empty_state(work)
        self.assertEqual(state.gone, [[0, 0, 0, 0], [0, 0, 0], [0, 0, 0], [0, 0, 0, 0]])
        self.assertEqual([len(cells) for cells in state.cells], [1, 2, 3, 4, 5, 6, 1, 1, 1])

    def test_two_of_them_share_nothing(self):
        work = six_kinds_work()
        before = work_fields(work)
        one = empty_state(work)
        one.cells[0][0] = (0, 0)
        one.sides[0] = 1
        one.gone[0][0] = 1
        one.gone[7][0] = 1
        other = empty_state(work)
        self.assertEqual(state_fields(other), (0, [[None] * room for room in [2, 1, 3, 2, 1, 2, 6, 1]], [0] * 8,
                                               [[0], [0, 0], [0, 0], [0, 0], [0, 0], [0], [0], [0]]))
        self.assertEqual(work_fields(work), before)

    def test_its_lists_are_apart(self):
        state = empty_state(Work(one_cell_belts(2), [Source(0, 1, [1]), Source(1, 1, [1]), Drain(0, 1), Drain(1, 1)]))
        state.cells[0][0] = (0, 0)
        state.gone[0][0] = 1
        self.assertEqual((state.cells, state.gone), ([[(0, 0)], [None]], [[1], [0], [0], [0]]))

    def test_thrown_works(self):
        for seed in range(20):
            work = thrown_work(seed)
            state = empty_state(work)
            self.assertEqual([len(cells) for cells in state.cells], [belt.room for belt in work.belts])
            self.assertEqual((len(state.sides), len(state.gone)), (len(work.knots), len(work.knots)))


if __name__ == "__main__":
    unittest.main()
