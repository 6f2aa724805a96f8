import unittest

from beltshares.belts import Belt
from beltshares.errors import TooLong, WorkError
from beltshares.knots import Drain, Joiner, Parter, Source
from beltshares.rounds import round_of
from beltshares.shapes import alike
from beltshares.states import empty_state
from beltshares.turns import one_turn
from beltshares.works import Work

from tests.samples import (carousel_work, endless_work, filling_work, line_work, long_work, ring_work,
                           sample_works, work_fields)


class ByHand(unittest.TestCase):
    """[5.2] rounds that are easily told."""

    def test_lines(self):
        self.assertEqual(round_of(line_work()), (0, 1))
        self.assertEqual(round_of(line_work(kinds=[4, 5, 6])), (0, 3))
        self.assertEqual(round_of(line_work(source_pace=3)), (0, 3))
        self.assertEqual(round_of(line_work(source_pace=4, kinds=[1, 2, 3, 4, 5, 6])), (0, 24))
        self.assertEqual(round_of(line_work(room=2)), (1, 1))
        self.assertEqual(round_of(line_work(room=6)), (5, 1))

    def test_the_same_kind_twice_in_a_source(self):
        self.assertEqual(round_of(line_work(kinds=[5, 5])), (0, 2))

    def test_works_that_fill_up(self):
        self.assertEqual(round_of(line_work(room=2, drain_pace=0)), (2, 1))
        self.assertEqual(round_of(line_work(room=6, drain_pace=0)), (6, 1))
        self.assertEqual(round_of(line_work(room=1, source_pace=4, drain_pace=0)), (1, 4))

    def test_nothing_in_it(self):
        self.assertEqual(round_of(Work([Belt(1, 2), Belt(1, 3), Belt(1, 1)], [Parter(2, [0, 1]), Joiner([0, 1], 2)])),
                         (0, 6))

    def test_paces_with_no_common_divisor(self):
        self.assertEqual(round_of(line_work(source_pace=3, drain_pace=4)), (1, 12))
        self.assertEqual(round_of(line_work(source_pace=4, drain_pace=3, kinds=[1, 2])), (0, 24))

    def test_sides_of_a_parter(self):
        knots = [Source(0, 1, [1]), Parter(0, [1, 2, 3]), Drain(1, 1), Drain(2, 1), Drain(3, 1)]
        self.assertEqual(round_of(Work([Belt(1, 1) for belt in range(4)], knots)), (0, 3))

    def test_rings(self):
        self.assertEqual(round_of(ring_work()), (13, 6))
        self.assertEqual(round_of(carousel_work()), (10, 6))
        self.assertEqual(round_of(carousel_work(5, 1, [1, 1, 2])), (7, 1))


class First(unittest.TestCase):
    """[5.2] the round is the first one."""

    def test_the_first_round(self):
        for number, work in enumerate(sample_works()):
            begin, length = round_of(work)
            self.assertGreaterEqual(length, 1)
            states = [empty_state(work)]
            while len(states) <= begin + length:
                states.append(one_turn(work, states[-1]))
            pairs = []
            for later in range(len(states)):
                pairs.extend((early, later) for early in range(later) if alike(work, states[early], states[later]))
            with self.subTest(number=number):
                self.assertEqual(pairs, [(begin, begin + length)])


class Limits(unittest.TestCase):
    """[5.2] TooLong."""

    def refused(self, *handed):
        with self.assertRaises(TooLong) as caught:
            round_of(*handed)
        self.assertIsInstance(caught.exception, WorkError)

    def test_just_at_the_limit_and_one_less(self):
        for work in sample_works() + [long_work()]:
            found = round_of(work, 1000)
            end = sum(found)
            self.assertEqual(round_of(work, end), found)
            self.assertEqual(round_of(work, end + 1), found)
            self.refused(work, end - 1)

    def test_a_long_round(self):
        self.refused(long_work())
        self.refused(long_work(), 719)
        self.assertEqual(round_of(long_work(), 720), (0, 720))

    def test_the_limit_is_200_where_it_is_left_out(self):
        self.assertEqual(round_of(filling_work(56)), (56, 144))
        self.refused(filling_work(57))
        self.assertEqual(round_of(filling_work(57), 201), (57, 144))

    def test_limits_of_1_and_1000(self):
        self.assertEqual(round_of(line_work(), 1), (0, 1))
        self.refused(line_work(room=2), 1)
        self.refused(line_work(kinds=[1, 2]), 1)
        self.assertEqual(round_of(line_work(), 1000), (0, 1))
        self.refused(endless_work(), 1000)

    def test_the_limit_by_its_name(self):
        self.assertEqual(round_of(work=line_work(room=2), limit=2), (1, 1))
        with self.assertRaises(TooLong):
            round_of(work=line_work(room=2), limit=1)

    def test_the_work_stays(self):
        for work in sample_works():
            before = work_fields(work)
            self.assertEqual(round_of(work), round_of(work))
            self.assertEqual(work_fields(work), before)


if __name__ == "__main__":
    unittest.main()
