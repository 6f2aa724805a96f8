import unittest

from beltshares.belts import Belt
from beltshares.knots import Drain, FirstParter, Joiner, Parter, Sieve, Source
from beltshares.works import Work
from beltshares.writing import work_text

from tests.samples import MOST_KIND, line_work, one_cell_belts, six_kinds_work, work_fields


class WorkText(unittest.TestCase):
    """[3.1], [3.3] works as they are written."""

    def test_a_line(self):
        work = line_work(room=3, pace=2, source_pace=4, drain_pace=0, kinds=[7])
        self.assertEqual(work_text(work), "belt 3 2\nsource 0 4 7\ndrain 0 0")

    def test_all_six(self):
        self.assertEqual(work_text(six_kinds_work()).split("\n"), [
            "belt 2 1", "belt 1 1", "belt 3 2", "belt 2 1", "belt 1 3", "belt 2 1", "belt 6 4", "belt 1 1",
            "source 0 1 5 0", "first 0 1 2", "sieve 1 3 4 5", "parter 2 5 6", "joiner 7 4 5",
            "drain 3 2", "drain 6 3", "drain 7 1",
        ])

    def test_no_line_feed_at_the_end_and_single_blanks(self):
        text = work_text(six_kinds_work())
        self.assertFalse(text.endswith("\n"))
        self.assertNotIn("  ", text)
        self.assertNotIn(" \n", text)
        self.assertEqual(text.count("\n"), 15)

    def test_the_order_of_knots_and_of_their_belts(self):
        work = Work(one_cell_belts(5), [
            Drain(4, 1), Joiner([3, 1, 2], 4), Parter(0, [2, 3, 1]), Source(0, 1, [2, 1, 2])])
        self.assertEqual(work_text(work).split("\n")[5:],
                         ["drain 4 1", "joiner 4 3 1 2", "parter 0 2 3 1", "source 0 1 2 1 2"])

    def test_four_outs_and_ins(self):
        work = Work(one_cell_belts(10), [
            FirstParter(9, [8, 7, 6, 5]), Joiner([5, 6, 7, 8], 4), Parter(4, [3, 2, 1, 0]), Joiner([0, 1, 2, 3], 9)])
        self.assertEqual(work_text(work).split("\n")[10:],
                         ["first 9 8 7 6 5", "joiner 4 5 6 7 8", "parter 4 3 2 1 0", "joiner 9 0 1 2 3"])

    def test_kinds_of_nought_and_of_thirty_figures(self):
        belts = [Belt(6, 4), Belt(1, 1), Belt(2, 3)]
        work = Work(belts, [Source(0, 1, [0, MOST_KIND, 10 ** 29, 1, 0, 9]), Sieve(0, [2, 1], MOST_KIND),
                            Drain(1, 1), Drain(2, 4)])
        nines = "9" * 30
        ten = "1" + "0" * 29
        self.assertEqual(work_text(work), "belt 6 4\nbelt 1 1\nbelt 2 3\n"
                         f"source 0 1 0 {nines} {ten} 1 0 9\nsieve 0 2 1 {nines}\ndrain 1 1\ndrain 2 4")
        self.assertEqual(work_text(Work(belts[:1] * 3, [Source(1, 2, [0]), Sieve(1, [0, 2], 0), Drain(0, 1),
                                                        Drain(2, 1)])).split("\n")[3:],
                         ["source 1 2 0", "sieve 1 0 2 0", "drain 0 1", "drain 2 1"])

    def test_belts_of_two_figures(self):
        knots = [Source(belt, 1, [1]) for belt in range(12)] + [Drain(belt, 1) for belt in range(12)]
        rows = work_text(Work(one_cell_belts(12), knots)).split("\n")
        self.assertEqual((rows[12 + 11], rows[24 + 10]), ("source 11 1 1", "drain 10 1"))

    def test_the_work_stays(self):
        work = six_kinds_work()
        before = work_fields(work)
        self.assertEqual(work_text(work), work_text(work))
        self.assertEqual(work_fields(work), before)


if __name__ == "__main__":
    unittest.main()
