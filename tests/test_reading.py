import unittest

from beltshares.errors import BadRow, BadWork, WorkError
from beltshares.reading import read_work
from beltshares.writing import work_text

from tests.samples import MOST_KIND, fields_of, six_kinds_work, thrown_work, work_fields

GOOD = ["belt 1 1", "belt 2 3", "belt 6 4", "source 0 2 5 0", "sieve 0 1 2 5", "drain 1 0", "drain 2 4"]


def with_row(place, row):
    """A good text with another row at a place."""
    return "\n".join(GOOD[:place] + [row] + GOOD[place + 1:])


class Read(unittest.TestCase):
    """[3.1], [3.3] texts that are works."""

    def test_a_text(self):
        work = read_work("\n".join(GOOD))
        self.assertEqual([(belt.room, belt.pace) for belt in work.belts], [(1, 1), (2, 3), (6, 4)])
        self.assertEqual([fields_of(knot) for knot in work.knots], [
            ["Source", ("pace", 2), ("ins", []), ("outs", [0]), ("kinds", [5, 0])],
            ["Sieve", ("ins", [0]), ("outs", [1, 2]), ("kind", 5)],
            ["Drain", ("pace", 0), ("ins", [1]), ("outs", [])],
            ["Drain", ("pace", 4), ("ins", [2]), ("outs", [])],
        ])

    def test_all_six_read_and_written_again(self):
        text = work_text(six_kinds_work())
        work = read_work(text)
        self.assertEqual(work_text(work), text)
        self.assertEqual(work_fields(work), work_fields(six_kinds_work()))

    def test_thrown_works_read_and_written_again(self):
        for seed in range(60):
            with self.subTest(seed=seed):
                work = thrown_work(seed)
                self.assertEqual(work_fields(read_work(work_text(work))), work_fields(work))

    def test_a_joiners_out_stands_first(self):
        work = read_work("\n".join(["belt 1 1"] * 4 + ["joiner 3 0 1 2", "source 0 1 1",
                                                        "source 1 1 1", "source 2 1 1", "drain 3 1"]))
        self.assertEqual((work.knots[0].ins, work.knots[0].outs), ([0, 1, 2], [3]))

    def test_kinds_of_thirty_figures(self):
        for kind in [0, 10 ** 29, MOST_KIND]:
            rows = ["belt 1 1"] * 3 + [f"source 0 1 {kind} 1", f"sieve 0 1 2 {kind}", "drain 1 1", "drain 2 1"]
            work = read_work("\n".join(rows))
            self.assertEqual((work.knots[0].kinds, work.knots[1].kind), ([kind, 1], kind))

    def test_every_bound_within(self):
        for room in [1, 6]:
            for pace in [1, 4]:
                work = read_work(f"belt {room} {pace}\nsource 0 {pace} 1 2 3 4 5 6\ndrain 0 {pace}")
                self.assertEqual((work.belts[0].room, work.belts[0].pace), (room, pace))

    def test_two_readings_share_nothing(self):
        one = read_work("\n".join(GOOD))
        other = read_work("\n".join(GOOD))
        self.assertIsNot(one.knots[0], other.knots[0])
        self.assertEqual(work_fields(one), work_fields(other))


class Rows(unittest.TestCase):
    """[3.3] the first row that is not good."""

    def refused(self, text, line):
        with self.subTest(text=text):
            with self.assertRaises(BadRow) as caught:
                read_work(text)
            self.assertEqual(caught.exception.line, line)
            self.assertIsInstance(caught.exception, WorkError)

    def bad_row(self, row):
        """Refused as the first row, as a middle one and as the last one."""
        self.refused(row, 1)
        for place in range(len(GOOD)):
            self.refused(with_row(place, row), place + 1)
        self.refused("\n".join(GOOD + [row]), len(GOOD) + 1)

    def test_first_words(self):
        for word in ["", "bel", "belts", "Belt", "BELT", "firsts", "firstparter", "0", "1", "knot", "-", "sink"]:
            self.bad_row(word)
            self.bad_row(f"{word} 1 1")
            self.bad_row(f"{word} 0 1 2 3")

    def test_too_few_words(self):
        for row in ["belt", "belt 1", "source", "source 0", "source 0 1", "drain", "drain 0", "parter", "parter 0",
                    "parter 0 1", "first", "first 0", "first 0 1", "sieve", "sieve 0", "sieve 0 1", "sieve 0 1 2",
                    "joiner", "joiner 0", "joiner 0 1"]:
            self.bad_row(row)

    def test_too_many_words(self):
        for row in ["belt 1 1 1", "belt 1 1 1 1", "source 0 1 1 2 3 4 5 6 7", "drain 0 1 1", "drain 0 1 1 1",
                    "parter 0 1 2 3 4 5", "parter 0 1 2 3 4 5 6", "first 0 1 2 3 4 5", "sieve 0 1 2 3 4",
                    "sieve 0 1 2 3 4 5", "joiner 0 1 2 3 4 5"]:
            self.bad_row(row)

    def test_words_that_write_no_number(self):
        rows = ["belt 1 1", "source 0 1 5 6", "drain 0 1", "parter 0 1 2", "first 0 1 2",
                "sieve 0 1 2 5", "joiner 0 1 2"]
        for row in rows:
            words = row.split(" ")
            for place in range(1, len(words)):
                for word in ["x", "-1", "+1", "01", "00", "1.0", "1_0", "1" + "0" * 30, "9" * 31]:
                    self.refused(with_row(0, " ".join(words[:place] + [word] + words[place + 1:])), 1)
                self.refused(with_row(4, " ".join(words[:place] + ["one"] + words[place + 1:])), 5)

    def test_out_of_bounds(self):
        for row in ["belt 0 1", "belt 7 1", "belt 1 0", "belt 1 5", "source 0 0 1", "source 0 5 1", "drain 0 5",
                    "drain 0 " + "9" * 30, "belt " + "9" * 30 + " 1"]:
            self.bad_row(row)

    def test_blanks(self):
        for row in ["belt  1 1", "belt 1  1", " belt 1 1", "belt 1 1 ", " ", "  ", "", "source 0 1  5", "source 0 1 5 ",
                    " drain 0 1", "drain 0 1 ", "parter 0 1 2 ", "joiner 0 1  2", " sieve 0 1 2 5", "first 0  1 2"]:
            self.bad_row(row)

    def test_empty_text_and_line_feeds(self):
        self.refused("", 1)
        self.refused("\n", 1)
        self.refused("\n".join(GOOD) + "\n", len(GOOD) + 1)
        self.refused("\n".join(GOOD) + "\n\n", len(GOOD) + 1)
        self.refused("\n" + "\n".join(GOOD), 1)
        self.refused("\n".join(GOOD[:3] + [""] + GOOD[3:]), 4)

    def test_a_belts_row_behind_a_knots(self):
        self.refused("belt 1 1\nsource 0 1 5\nbelt 1 1\ndrain 0 1", 3)
        self.refused("source 0 1 5\nbelt 1 1\ndrain 0 1", 2)
        self.refused("belt 1 1\nsource 0 1 5\ndrain 0 1\nbelt 1 1", 4)
        self.refused("\n".join(GOOD + ["belt 9 9"]), 8)

    def test_the_first_of_several(self):
        self.refused("belt 1 1\nsource 0 9 5\ndrain 0 9", 2)
        self.refused("belt 1 1\nsource 0 1 5\ndrain 0 9\nx", 3)
        self.refused("x\nbelt 9 9\n", 1)

    def test_ahead_of_what_is_no_work(self):
        self.refused("belt 1 1\nsource 7 1 5\ndrain 7 1\nx", 4)
        self.refused("\n".join(["belt 1 1"] * 25 + ["source 0 1 1", "drain 0 5"]), 27)
        self.refused("\n".join(["belt 1 1"] * 25 + ["belt 1 7"]), 26)
        self.refused("\n".join(["belt 1 1"] * 59 + ["belt"]), 60)
        self.refused("drain 0 1\ndrain 0 1\nnothing", 3)


class NoWorks(unittest.TestCase):
    """[3.3] rows that are all good and no work."""

    def refused(self, rows):
        with self.subTest(rows=rows):
            with self.assertRaises(BadWork):
                read_work("\n".join(rows))

    def test_no_knots_and_no_belts(self):
        self.refused(["belt 1 1"])
        self.refused(["source 0 1 1", "drain 0 1"])

    def test_too_many(self):
        lines = [f"source {belt} 1 1" for belt in range(13)] + [f"drain {belt} 1" for belt in range(13)]
        self.refused(["belt 1 1"] * 13 + lines)
        self.refused(["belt 1 1"] * 25 + ["source 0 1 1", "drain 0 1"])
        self.refused(["belt 1 1"] * 60)
        rings = []
        for first in range(0, 25, 5):
            rings.append(f"parter {first} {first + 1} {first + 2} {first + 3} {first + 4}")
            rings.append(f"joiner {first} {first + 1} {first + 2} {first + 3} {first + 4}")
        self.refused(["belt 1 1"] * 25 + rings)

    def test_belts_that_are_not_there_or_used_twice(self):
        self.refused(["belt 1 1", "source 1 1 1", "drain 0 1"])
        self.refused(["belt 1 1", "source 0 1 1", "drain " + "9" * 30 + " 1"])
        self.refused(["belt 1 1", "source 0 1 1", "source 0 1 1", "drain 0 1"])
        self.refused(["belt 1 1", "source 0 1 1", "drain 0 1", "drain 0 1"])
        self.refused(["belt 1 1", "belt 1 1", "source 0 1 1", "parter 0 1 1", "drain 1 1"])
        self.refused(["belt 1 1", "belt 1 1", "source 0 1 1", "drain 0 1"])


if __name__ == "__main__":
    unittest.main()
