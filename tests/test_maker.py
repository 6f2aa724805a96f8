import unittest

from beltshares.errors import BadKnot, BadPaces, WorkError
from beltshares.knots import Drain, Joiner, Parter, Source
from beltshares.leaps import leapt
from beltshares.maker import even_work
from beltshares.ratios import ratio, ratio_less, ratio_times
from beltshares.rounds import round_of
from beltshares.shares import shares_of
from beltshares.states import empty_state
from beltshares.turns import one_turn

from tests.samples import BAD_KINDS, MOST_KIND, work_fields

FAR = 10 ** 60


class Made(unittest.TestCase):
    """[8.1]"""

    def each(self):
        """A work for each number of ways and each pace, with some kinds."""
        for ways in range(1, 9):
            for pace in [2, 3, 4]:
                for kinds in [[0], [7, 7], [1, 2, 3, 4, 5], [MOST_KIND, 0, 1, 2, 1, 0]]:
                    with self.subTest(ways=ways, pace=pace, kinds=kinds):
                        yield ways, pace, kinds, even_work(ways, kinds, pace)

    def test_the_kinds_of_knots(self):
        for ways, pace, kinds, work in self.each():
            self.assertEqual(len(work.sources()), 1)
            source = work.knots[work.sources()[0]]
            self.assertEqual((source.pace, source.kinds), (pace, kinds))
            self.assertEqual([work.knots[number].pace for number in work.drains()], [1] * ways)
            others = [knot for knot in work.knots if not isinstance(knot, (Source, Drain))]
            parters = [knot for knot in others if isinstance(knot, Parter)]
            joiners = [knot for knot in others if isinstance(knot, Joiner)]
            self.assertEqual(len(parters) + len(joiners), len(others))
            self.assertEqual([len(parter.outs) for parter in parters], [2] * len(parters))
            self.assertLessEqual(len(joiners), 1)

    def test_counts_of_drains_differ_by_at_most_one(self):
        for ways, pace, kinds, work in self.each():
            if kinds != [0]:
                continue
            state = empty_state(work)
            for turn in range(400):
                state = one_turn(work, state)
                counts = [state.gone[number][0] for number in work.drains()]
                self.assertLessEqual(max(counts) - min(counts), 1)
            self.assertGreater(min(counts), 10)

    def test_counts_of_drains_far_on(self):
        for ways, pace, kinds, work in self.each():
            if kinds != [0]:
                continue
            for turn in [FAR - 1, FAR - 2, FAR - 30, 10 ** 40 + 11]:
                state = leapt(work, turn, 1000)
                counts = [state.gone[number][0] for number in work.drains()]
                self.assertLessEqual(max(counts) - min(counts), 1)

    def test_the_round_and_the_shares(self):
        for ways, pace, kinds, work in self.each():
            self.assertLessEqual(sum(round_of(work, 1000)), 1000)
            shares = shares_of(work, 1000)
            taken = [shares[number][0] for number in work.drains()]
            self.assertEqual(taken, taken[:1] * ways)
            self.assertTrue(ratio_less((0, 1), taken[0]))
            self.assertEqual(ratio_times(taken[0], ways), shares[work.sources()[0]][0])

    def test_all_that_the_source_gives_is_taken(self):
        for ways, pace, kinds, work in self.each():
            if kinds == [0]:
                self.assertEqual(shares_of(work, 1000)[work.drains()[0]], [ratio(1, ways * pace)])

    def test_the_pace_left_out_is_2(self):
        for ways in range(1, 9):
            work = even_work(ways, [3])
            self.assertEqual(work_fields(work), work_fields(even_work(ways, [3], 2)))
            self.assertEqual(work.knots[work.sources()[0]].pace, 2)
        self.assertEqual(work_fields(even_work(ways=3, kinds=[3], pace=4)), work_fields(even_work(3, [3], 4)))


class Refused(unittest.TestCase):
    """[8.1] the refusals and their order."""

    def refused(self, error, *handed):
        with self.subTest(handed=handed):
            with self.assertRaises(error) as caught:
                even_work(*handed)
            self.assertIsInstance(caught.exception, WorkError)

    def test_ways(self):
        for ways in [0, 9, 10, 16, -1, -8, FAR, -FAR]:
            self.refused(BadPaces, ways, [1])
            self.refused(BadPaces, ways, [1], 4)

    def test_paces(self):
        for pace in [1, 0, -1, -2, 5, 6, FAR, -FAR]:
            for ways in [1, 3, 8]:
                self.refused(BadPaces, ways, [1], pace)

    def test_kinds(self):
        for ways in range(1, 9):
            self.refused(BadKnot, ways, [])
            self.refused(BadKnot, ways, [1] * 7, 4)
            for kind in BAD_KINDS:
                self.refused(BadKnot, ways, [kind])
                self.refused(BadKnot, ways, [1, 2, 3, 4, 5, kind], 3)

    def test_bad_paces_come_first(self):
        for kinds in [[], [1] * 7, [-1]]:
            for ways, pace in [(0, 2), (9, 2), (3, 1), (3, 5), (0, 0)]:
                self.refused(BadPaces, ways, kinds, pace)


class Kept(unittest.TestCase):
    """[0.2]"""

    def test_the_kinds_handed_in(self):
        kinds = [4, 5]
        work = even_work(3, kinds)
        before = work_fields(work)
        self.assertEqual(kinds, [4, 5])
        kinds.append(6)
        kinds[0] = 9
        self.assertEqual(work_fields(work), before)
        self.assertEqual(work_fields(even_work(3, [4, 5])), before)


if __name__ == "__main__":
    unittest.main()
