import unittest

from beltshares.belts import Belt
from beltshares.errors import BadPaces, TooLong, TooMany, WorkError
from beltshares.evenness import even_fault, settings_of, uneven_pair, with_paces
from beltshares.knots import Drain, FirstParter, Joiner, Parter, Source
from beltshares.shares import shares_of
from beltshares.works import Work

from tests.samples import (endless_work, fields_of, filling_work, line_work, one_cell_belts, six_kinds_work,
                           thrown_work, work_fields)

FAR = 10 ** 60


def fork_work(knot, source_pace=1, paces=(1, 1)):
    """A source whose wares a knot sends onto the belts 1 and 2, each to a drain."""
    return Work(one_cell_belts(3), [Source(0, source_pace, [1]), knot, Drain(1, paces[0]), Drain(2, paces[1])])


def even_fork(source_pace=1):
    return fork_work(Parter(0, [1, 2]), source_pace)


def first_fork(source_pace=2):
    """Its first drain gets all that it can take, the other one the rest."""
    return fork_work(FirstParter(0, [1, 2]), source_pace)


def no_drains_work():
    return Work(one_cell_belts(3), [Parter(0, [1, 2]), Joiner([1, 2], 0)])


class RefusalTest(unittest.TestCase):
    def refused(self, error, ask, *handed):
        with self.subTest(handed=repr(handed[1:])[:100]):
            with self.assertRaises(error) as caught:
                ask(*handed)
            self.assertIsInstance(caught.exception, WorkError)


class WithPaces(RefusalTest):
    """[6.3]"""

    def test_each_pace(self):
        for pace in range(5):
            work = with_paces(line_work(), [pace])
            self.assertEqual([fields_of(knot) for knot in work.knots],
                             [fields_of(Source(0, 1, [7])), fields_of(Drain(0, pace))])

    def test_in_the_order_of_the_drains(self):
        for paces in [[0, 4, 1], [4, 3, 2], [1, 0, 0]]:
            work = with_paces(six_kinds_work(), paces)
            self.assertEqual([work.knots[number].pace for number in [5, 6, 7]], paces)
            self.assertEqual([work.knots[number].ins for number in [5, 6, 7]], [[3], [6], [7]])
            others = [fields_of(thing) for thing in work.belts + work.knots[:5]]
            before = six_kinds_work()
            self.assertEqual(others, [fields_of(thing) for thing in before.belts + before.knots[:5]])

    def test_drains_that_do_not_stand_last(self):
        work = Work(one_cell_belts(2), [Drain(1, 1), Source(0, 2, [1]), Drain(0, 1), Source(1, 3, [2])])
        paced = with_paces(work, [3, 0])
        self.assertEqual([fields_of(knot) for knot in paced.knots], [
            fields_of(knot) for knot in [Drain(1, 3), Source(0, 2, [1]), Drain(0, 0), Source(1, 3, [2])]])

    def test_other_numbers_of_paces(self):
        for paces in [[], [1], [1, 1], [1, 1, 1, 1], [1] * 24]:
            self.refused(BadPaces, with_paces, six_kinds_work(), paces)
        self.refused(BadPaces, with_paces, line_work(), [])
        self.refused(BadPaces, with_paces, line_work(), [1, 1])

    def test_paces_out_of_bounds(self):
        for pace in [-1, -2, 5, 6, FAR, -FAR]:
            for place in range(3):
                paces = [1, 0, 4]
                paces[place] = pace
                self.refused(BadPaces, with_paces, six_kinds_work(), paces)
            self.refused(BadPaces, with_paces, six_kinds_work(), [pace])

    def test_a_work_without_drains(self):
        work = with_paces(no_drains_work(), [])
        self.assertEqual(work_fields(work), work_fields(no_drains_work()))
        self.refused(BadPaces, with_paces, no_drains_work(), [1])

    def test_the_beat_goes_by_the_new_paces(self):
        work = line_work(pace=2, drain_pace=3)
        self.assertEqual(work.beat(), 6)
        self.assertEqual(with_paces(work, [0]).beat(), 2)
        self.assertEqual(with_paces(work, [4]).beat(), 4)

    def test_what_is_handed_in_stays_and_is_not_kept(self):
        work = six_kinds_work()
        before = work_fields(work)
        paces = [4, 0, 2]
        paced = with_paces(work, paces)
        told = work_fields(paced)
        self.assertEqual((work_fields(work), paces), (before, [4, 0, 2]))
        paces[0] = 1
        paces.clear()
        self.assertEqual(work_fields(paced), told)
        with_paces(paced, [1, 1, 1])
        self.assertEqual(work_fields(paced), told)
        self.assertIsNot(paced.knots[0], work.knots[0])


class UnevenPair(unittest.TestCase):
    """[6.4]"""

    def told(self, paces, taken, wanted):
        kept = (list(paces), list(taken))
        with self.subTest(paces=paces, taken=taken):
            self.assertEqual(uneven_pair(paces, taken), wanted)
            self.assertEqual((paces, taken), kept)

    def test_none_at_all(self):
        self.told([], [], None)
        self.told([1], [(0, 1)], None)
        self.told([0], [(0, 1)], None)

    def test_equal_ratios(self):
        self.told([1, 1], [(1, 3), (1, 3)], None)
        self.told([1, 2, 3, 4, 0], [(0, 1)] * 5, None)

    def test_at_the_most_that_its_pace_can_take_and_just_below(self):
        for pace in [1, 2, 3, 4]:
            self.told([pace, 1], [(1, pace), (2, 1)], None)
            self.told([pace, 1], [(99, 100 * pace), (2, 1)], (0, 1))
            self.told([pace, 1], [(0, 1), (2, 1)], (0, 1))
            self.told([pace, 1], [(10 ** 60 - 1, pace * 10 ** 60), (2, 1)], (0, 1))
            self.told([pace, 1], [(10 ** 60 + 1, pace * 10 ** 60), (2, 1)], None)

    def test_just_less_than_the_other(self):
        self.told([1, 1], [(1, 3), (1, 2)], (0, 1))
        self.told([1, 1], [(1, 2), (1, 3)], (1, 0))
        self.told([1, 1], [(10 ** 60, 2 * 10 ** 60 + 1), (1, 2)], (0, 1))

    def test_a_shut_drain(self):
        self.told([0, 1], [(0, 1), (1, 1)], None)
        self.told([0, 1, 1], [(0, 1), (1, 2), (1, 4)], (2, 1))
        self.told([1, 0], [(0, 1), (1, 4)], (0, 1))

    def test_the_least_pair(self):
        self.told([1, 1, 1, 1], [(1, 4), (1, 4), (1, 2), (1, 2)], (0, 2))
        self.told([1, 1, 1, 1], [(1, 2), (1, 4), (1, 3), (1, 2)], (1, 0))
        self.told([4, 1, 1, 1], [(1, 4), (1, 3), (1, 2), (1, 1)], (1, 2))
        self.told([4, 3, 2, 1], [(1, 4), (1, 3), (1, 2), (1, 1)], None)
        self.told([4, 3, 1, 1], [(1, 4), (1, 3), (1, 2), (1, 1)], (2, 3))
        self.told([1, 1, 1], [(1, 2), (1, 2), (0, 1)], (2, 0))

    def test_twenty_four(self):
        taken = [(1, 2)] * 22 + [(1, 3), (3, 4)]
        self.told([2] * 22 + [2, 1], taken, (22, 0))
        self.told([2] * 22 + [3, 1], taken, None)
        self.told([1] * 24, [(1, 2)] * 24, None)


class Settings(RefusalTest):
    """[6.5]"""

    def test_no_lists(self):
        self.assertEqual(settings_of([]), [[]])

    def test_the_order(self):
        self.assertEqual(settings_of([[3, 1], [2, 0, 4]]), [[3, 2], [3, 0], [3, 4], [1, 2], [1, 0], [1, 4]])
        self.assertEqual(settings_of([[1], [2], [3]]), [[1, 2, 3]])
        self.assertEqual(settings_of([[5, 6]]), [[5], [6]])
        self.assertEqual(settings_of([[0, 1], [0, 1], [0, 1]]), [
            [0, 0, 0], [0, 0, 1], [0, 1, 0], [0, 1, 1], [1, 0, 0], [1, 0, 1], [1, 1, 0], [1, 1, 1]])

    def test_the_same_number_twice(self):
        self.assertEqual(settings_of([[1, 1], [2, 2]]), [[1, 2]] * 4)

    def test_any_whole_numbers(self):
        self.assertEqual(settings_of([[-5, FAR], [9]]), [[-5, 9], [FAR, 9]])

    def test_an_empty_list(self):
        self.assertEqual(settings_of([[]]), [])
        self.assertEqual(settings_of([[], [1, 2]]), [])
        self.assertEqual(settings_of([[1, 2], []]), [])
        long = list(range(100))
        for place in [0, 11, 23]:
            menus = [long] * 24
            menus[place] = []
            self.assertEqual(settings_of(menus), [])

    def test_81_and_82(self):
        self.assertEqual(len(settings_of([[0, 1, 2]] * 4)), 81)
        self.assertEqual(settings_of([list(range(81))]), [[number] for number in range(81)])
        self.assertEqual(len(settings_of([list(range(80))])), 80)
        self.assertEqual(settings_of([[7]] * 23 + [list(range(81))])[80], [7] * 23 + [80])
        for menus in [[list(range(82))], [list(range(41)), [1, 2]], [[1, 2], list(range(41))], [list(range(100))],
                      [[0, 1, 2]] * 3 + [[0, 1, 2, 3]], [list(range(100))] * 24, [[0, 1]] * 7]:
            self.refused(TooMany, settings_of, menus)
        self.assertEqual(len(settings_of([[0, 1]] * 6 + [[5]] * 18)), 64)

    def test_lists_are_apart_and_stay(self):
        menus = [[1, 2], [3]]
        told = settings_of(menus)
        told[0][0] = 9
        told[1].append(4)
        self.assertEqual(settings_of(menus), [[1, 3], [2, 3]])
        self.assertEqual(menus, [[1, 2], [3]])
        told = settings_of(menus)
        menus[0][0] = 8
        menus.clear()
        self.assertEqual(told, [[1, 3], [2, 3]])
        told = settings_of([[1, 1], [2]])
        told[0][0] = 5
        self.assertEqual(told, [[5, 2], [1, 2]])
        told = settings_of([])
        told[0].append(1)
        told.append([])
        self.assertEqual(settings_of([]), [[]])


class EvenFault(RefusalTest):
    """[6.6]"""

    def test_even_at_all_settings(self):
        self.assertIsNone(even_fault(even_fork(), [[0, 1, 2, 3, 4], [0, 1, 2, 3, 4]]))
        self.assertIsNone(even_fault(even_fork(2), [[1, 2, 4], [1, 2, 4]]))
        self.assertIsNone(even_fault(line_work(), [[0, 1, 2, 3, 4]]))

    def test_the_first_setting_that_has_a_fault(self):
        paces, taken, i, j = even_fault(first_fork(), [[1, 2], [1, 2]])
        self.assertEqual((paces, taken, i, j), ([1, 1], [(1, 2), (0, 1)], 1, 0))

    def test_a_middle_and_the_last_one(self):
        self.assertEqual(even_fault(first_fork(), [[4, 3, 1], [1]]), ([3, 1], self.taken(3, 1), 1, 0))
        self.assertEqual(even_fault(first_fork(), [[0, 4, 1], [1]]), ([1, 1], [(1, 2), (0, 1)], 1, 0))
        self.assertEqual(even_fault(first_fork(), [[0, 4], [0, 1, 2]]), None)
        self.assertEqual(even_fault(first_fork(), [[2], [0, 1]]), ([2, 1], [(1, 2), (0, 1)], 1, 0))

    def taken(self, first, second):
        shares = shares_of(with_paces(first_fork(), [first, second]))
        return [shares[2][0], shares[3][0]]

    def test_settings_behind_the_fault_do_not_matter(self):
        self.assertEqual(even_fault(first_fork(), [[1], [1, 2, 3]])[0], [1, 1])
        self.assertEqual(even_fault(first_fork(), [[1], [3, 2, 1]])[0], [1, 3])

    def test_by_the_words_of_the_document(self):
        seen = [0, 0]
        for seed in range(40):
            work = thrown_work(seed)
            menus = [[1, 2] if place < 3 else [1] for place in range(len(work.drains()))]
            wanted = None
            for paces in settings_of(menus):
                shares = shares_of(with_paces(work, paces), 1000)
                taken = [shares[number][0] for number in work.drains()]
                pair = uneven_pair(paces, taken)
                if pair is not None:
                    wanted = (paces, taken) + pair
                    break
            seen[wanted is None] += 1
            self.assertEqual(even_fault(work, menus, 1000), wanted)
        self.assertTrue(min(seen) > 3)

    def test_numbers_of_lists(self):
        for menus in [[], [[1]], [[1], [1], [1]], [[]], [[], [], []], [[1]] * 24]:
            self.refused(BadPaces, even_fault, even_fork(), menus)
        self.refused(BadPaces, even_fault, no_drains_work(), [[]])

    def test_numbers_that_are_no_paces(self):
        for pace in [-1, 5, FAR, -FAR]:
            for menus in [[[pace], [1]], [[1], [pace]], [[1, 2, pace], [1]], [[1], [pace, 1]], [[], [pace]],
                          [[pace], []], [[1], [1, pace, 2]]]:
                self.refused(BadPaces, even_fault, even_fork(), menus)

    def test_too_many(self):
        self.refused(TooMany, even_fault, even_fork(), [[1] * 82, [1]])
        self.refused(TooMany, even_fault, even_fork(), [[1] * 10, [1] * 9])
        self.assertIsNone(even_fault(even_fork(), [[1] * 9, [2] * 9]))

    def test_bad_paces_come_first_then_too_many_then_too_long(self):
        self.refused(BadPaces, even_fault, even_fork(), [[1] * 82, [5]])
        self.refused(BadPaces, even_fault, even_fork(), [[1] * 82])
        self.refused(BadPaces, even_fault, even_fork(), [[5], [1]], 1)
        self.refused(TooMany, even_fault, even_fork(), [[1] * 82, [1]], 1)
        self.refused(TooLong, even_fault, even_fork(), [[1], [1]], 1)
        # The uneven pair of the first setting is not looked for where there are too many settings.
        self.refused(TooMany, even_fault, first_fork(), [[1] * 82, [1]])

    def test_an_empty_list(self):
        self.assertIsNone(even_fault(first_fork(), [[], [1]]))
        self.assertIsNone(even_fault(first_fork(), [[1] * 100, []]))
        self.assertIsNone(even_fault(first_fork(), [[], [1]], 1))

    def test_a_work_without_drains_has_one_setting(self):
        self.assertIsNone(even_fault(no_drains_work(), []))
        stuck = Work([Belt(4, 1), Belt(1, 1)], [Source(1, 1, [1]), Joiner([0, 1], 0)])
        self.assertIsNone(even_fault(stuck, []))
        self.refused(TooLong, even_fault, stuck, [], 2)

    def test_too_long_ahead_of_an_uneven_pair_and_behind_it(self):
        # With paces 1, 1 its round ends at turn 2 and is uneven; with pace 3 it ends later.
        self.assertEqual(even_fault(first_fork(), [[1], [1, 3]], 2)[0], [1, 1])
        self.refused(TooLong, even_fault, first_fork(), [[1], [3, 1]], 2)
        self.refused(TooLong, even_fault, first_fork(), [[3, 1], [1]], 2)
        self.refused(TooLong, even_fault, even_fork(2), [[1], [1, 3]], 4)

    def test_limits(self):
        drains = len(filling_work(56).drains())
        menus = [[0]] * (drains - 2) + [[1], [1]]
        self.assertEqual(even_fault(filling_work(56), menus)[2:], (10, 11))
        self.refused(TooLong, even_fault, filling_work(57), menus)
        self.assertEqual(even_fault(work=filling_work(57), menus=menus, limit=201)[2:], (10, 11))
        self.refused(TooLong, even_fault, endless_work(), [[1]] * 9, 1000)

    def test_what_is_handed_in_stays_and_what_is_told_is_the_askers_own(self):
        work = first_fork()
        before = work_fields(work)
        menus = [[1, 2], [1, 2]]
        told = even_fault(work, menus)
        copy = repr(told)
        self.assertEqual((work_fields(work), menus), (before, [[1, 2], [1, 2]]))
        self.assertIsInstance(told, tuple)
        menus[0].clear()
        self.assertEqual(repr(told), copy)
        told[0].clear()
        told[1].clear()
        self.assertEqual(repr(even_fault(work, [[1, 2], [1, 2]])), copy)


if __name__ == "__main__":
    unittest.main()
