import unittest

from beltshares.knots import Drain, Parter, Source
from beltshares.shapes import alike, shape_of
from beltshares.states import State, empty_state, kind_of
from beltshares.turns import one_turn
from beltshares.works import Work

from tests.samples import kept_fields, one_cell_belts, sample_works, state_fields, work_fields

FAR = 10 ** 60


def two_sources_work():
    """Two sources, of pace 2 and 3, with kinds in common, and a parter: its beat is 6."""
    return Work(one_cell_belts(4), [Source(0, 2, [5, 0, 5]), Source(1, 3, [0, 5]), Parter(0, [2, 3]), Drain(1, 1),
                                    Drain(2, 0), Drain(3, 0)])


def some_state(**changed):
    """A state of that work, with some fields changed."""
    fields = {
        "turn": 7,
        "cells": [[(0, 3)], [None], [(0, 1)], [None]],
        "sides": [0, 0, 1, 0, 0, 0],
        "gone": [[9], [4], [4, 4], [4], [0], [0]],
    }
    fields.update(changed)
    return State(**fields)


class Alike(unittest.TestCase):
    """[5.1] states that are alike, and that differ in one thing."""

    def told(self, changed, wanted, base=None):
        """Whether a state with changed fields is alike the one without, either way round."""
        work = two_sources_work()
        one = some_state(**(base or {}))
        other = some_state(**dict(base or {}, **changed))
        before = (kept_fields(one), kept_fields(other), work_fields(work))
        with self.subTest(changed=changed):
            self.assertIs(alike(work, one, other), wanted)
            self.assertIs(alike(work, other, one), wanted)
            self.assertEqual(shape_of(work, one) == shape_of(work, other), wanted)
            self.assertEqual((kept_fields(one), kept_fields(other), work_fields(work)), before)

    def test_the_same_state(self):
        self.told({}, True)

    def test_turns(self):
        for turn in [1, 13, 19, 6 * FAR + 1, 6 * 10 ** 60 + 7]:
            self.told({"turn": turn}, True)
        for turn in [0, 2, 3, 4, 5, 6, 8, 9, 10, 11, 12, 6 * FAR, 6 * FAR + 4]:
            self.told({"turn": turn}, False)

    def test_a_cell_that_is_empty_in_one(self):
        self.told({"cells": [[(0, 3)], [None], [None], [None]]}, False)
        self.told({"cells": [[None], [None], [(0, 1)], [None]]}, False)
        self.told({"cells": [[(0, 3)], [None], [(0, 1)], [(0, 0)]]}, False)
        # A ware of kind 0 is a ware.
        self.told({"cells": [[(0, 3)], [None], [None], [None]]}, False)
        self.told({"cells": [[(0, 3)], [(1, 0)], [(0, 1)], [None]]}, False)

    def test_a_ware_in_another_cell(self):
        self.told({"cells": [[(0, 3)], [None], [None], [(0, 1)]]}, False)

    def test_a_ware_of_another_kind(self):
        self.told({"cells": [[(0, 4)], [None], [(0, 1)], [None]]}, False)
        self.told({"cells": [[(0, 3)], [None], [(0, 2)], [None]]}, False)

    def test_wares_of_the_same_kind(self):
        for ware in [(0, 0), (0, 2), (0, 5), (0, 6), (0, 8)]:
            self.told({"cells": [[ware], [None], [(0, 1)], [None]]}, True)

    def test_wares_of_the_same_kind_and_of_another_source(self):
        self.told({"cells": [[(1, 1)], [None], [(1, 0)], [None]]}, True)
        self.told({"cells": [[(1, 3)], [None], [(0, 1)], [None]]}, True)
        self.told({"cells": [[(1, 2)], [None], [(0, 1)], [None]]}, False)

    def test_sides(self):
        self.told({"sides": [0, 0, 0, 0, 0, 0]}, False)

    def test_counts_of_sources(self):
        for counts, wanted in [((12, 4), True), ((9, 6), True), ((15, 8), True), ((10, 4), False), ((11, 4), False),
                               ((9, 5), False), ((10, 5), False), ((11, 6), False), ((9 + 3 * FAR, 4), True),
                               ((9, 4 + 2 * FAR), True), ((10 + 3 * FAR, 4), False), ((9, 5 + 10 ** 69), False)]:
            self.told({"gone": [[counts[0]], [counts[1]], [4, 4], [4], [0], [0]]}, wanted)

    def test_counts_of_other_knots_make_no_difference(self):
        for counts in [[[5, 4], [4], [0], [0]], [[4, 3], [4], [0], [0]], [[4, 4], [3], [0], [0]],
                       [[4, 4], [4], [FAR], [0]], [[0, 0], [0], [0], [1]]]:
            self.told({"gone": [[9], [4]] + counts}, True)

    def test_two_differences_do_not_make_up_for_one_another(self):
        self.told({"turn": 8, "gone": [[10], [4], [4, 4], [4], [0], [0]]}, False)
        self.told({"cells": [[None], [(0, 3)], [(0, 1)], [None]]}, False)

    def test_large_serials(self):
        many = 3 * 10 ** 69
        base = {"turn": 6 * FAR, "gone": [[many], [4], [4, 4], [4], [0], [0]]}
        self.told({"cells": [[(0, many - 3)], [None], [(0, many - 2)], [None]]}, True, base)
        self.told({"cells": [[(0, many - 2)], [None], [(0, many - 2)], [None]]}, False, base)


def retold_alike(work, one, other):
    """Whether states are alike, in the words of [5.1]."""
    for cells, others in zip(one.cells, other.cells, strict=True):
        for ware, against in zip(cells, others, strict=True):
            if (ware is None) != (against is None):
                return False
            if ware is not None and kind_of(work, ware) != kind_of(work, against):
                return False
    for source in work.sources():
        if (one.gone[source][0] - other.gone[source][0]) % len(work.knots[source].kinds) != 0:
            return False
    return one.sides == other.sides and (one.turn - other.turn) % work.beat() == 0


class Shapes(unittest.TestCase):
    """[5.1] over plays."""

    def test_equal_just_where_alike(self):
        seen = 0
        for work in sample_works():
            states = [empty_state(work)]
            for turn in range(36):
                states.append(one_turn(work, states[-1]))
            for later, state in enumerate(states):
                self.assertIsInstance(shape_of(work, state), tuple)
                for other in states[:later]:
                    wanted = retold_alike(work, state, other)
                    seen += wanted
                    self.assertIs(alike(work, state, other), wanted)
                    self.assertEqual(shape_of(work, state) == shape_of(work, other), wanted)
        self.assertGreater(seen, 1000)

    def test_what_follows_upon_alike_states_is_alike(self):
        followed = 0
        for work in sample_works():
            states = [empty_state(work)]
            for turn in range(60):
                states.append(one_turn(work, states[-1]))
            for late in range(0, 40, 3):
                for early in range(late):
                    if alike(work, states[early], states[late]):
                        followed += 1
                        for more in range(20):
                            self.assertTrue(alike(work, states[early + more], states[late + more]))
        self.assertGreater(followed, 100)

    def test_a_far_state_that_is_alike_goes_on_alike(self):
        work = two_sources_work()
        near = some_state()
        far = State(near.turn + 6 * FAR, [[(0, 3 * FAR + 3)], [None], [(1, 2 * FAR)], [None]], near.sides,
                    [[9 + 3 * FAR], [4 + 2 * FAR], [FAR, FAR], [FAR], [FAR], [FAR]])
        for turn in range(30):
            self.assertTrue(alike(work, near, far))
            near = one_turn(work, near)
            far = one_turn(work, far)
        self.assertEqual(far.turn, near.turn + 6 * FAR)

    def test_a_shape_stays_when_the_state_is_changed(self):
        work = two_sources_work()
        state = some_state()
        shape = shape_of(work, state)
        told = repr(shape)
        state.cells[0][0] = None
        state.sides[2] = 0
        state.gone[0][0] = 10
        self.assertEqual(repr(shape), told)
        self.assertEqual(state_fields(some_state())[0], 7)


if __name__ == "__main__":
    unittest.main()
