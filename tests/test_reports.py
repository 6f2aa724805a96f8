import unittest

from beltshares.belts import Belt
from beltshares.errors import BadRow, BadWork, TooLong
from beltshares.knots import Drain, Joiner, Parter, Source
from beltshares.ratios import ratio_text
from beltshares.reports import report
from beltshares.rounds import round_of
from beltshares.shares import shares_of
from beltshares.waiting import still_from, waiting_way
from beltshares.works import Work
from beltshares.writing import work_text

from tests.samples import (endless_work, filling_work, line_work, long_work, one_cell_belts, ring_work, sample_works,
                           thrown_work)


class ByHand(unittest.TestCase):
    """[9.1]"""

    def told(self, work, rows, *limit):
        self.assertEqual(report(work_text(work), *limit), "\n".join(rows))

    def test_moving(self):
        self.told(line_work(), ["round 0 1", "source 0 1", "drain 1 1", "moving"])
        self.told(line_work(room=2, source_pace=3), ["round 0 3", "source 0 1/3", "drain 1 1/3", "moving"])

    def test_from_a_text(self):
        text = "belt 1 1\nbelt 1 1\nbelt 1 1\nsource 0 1 1 2 2\nsieve 0 1 2 1\ndrain 2 1\ndrain 1 1"
        self.assertEqual(report(text), "round 0 3\nsource 0 1\ndrain 2 2/3\ndrain 3 1/3\nmoving")

    def test_in_the_order_of_the_knots(self):
        work = Work(one_cell_belts(2), [Drain(1, 1), Source(0, 4, [1]), Drain(0, 1), Source(1, 2, [1])])
        self.told(work, ["round 0 4", "drain 0 1/2", "source 1 1/4", "drain 2 1/4", "source 3 1/2", "moving"])

    def test_no_rows_for_other_knots(self):
        work = Work(one_cell_belts(4), [Parter(0, [1, 2]), Source(0, 2, [1]), Joiner([1, 2], 3), Drain(3, 1)])
        self.assertEqual([row.split(" ")[:2] for row in report(work_text(work)).split("\n")[1:3]],
                         [["source", "1"], ["drain", "3"]])

    def test_still_with_an_empty_way(self):
        work = Work([Belt(1, 2), Belt(1, 3), Belt(1, 1)], [Parter(0, [1, 2]), Joiner([1, 2], 0)])
        self.told(work, ["round 0 6", "still 0", "waits", "ring none"])
        beside = Work(one_cell_belts(1) * 4, [Drain(3, 1), Parter(0, [1, 3]), Joiner([1, 2], 0), Source(2, 1, [1])])
        self.assertNotIn("waits", report(work_text(beside)))

    def test_still_with_a_way_to_a_drain(self):
        self.told(line_work(room=3, drain_pace=0), ["round 3 1", "source 0 0", "drain 1 0", "still 3", "waits 0",
                                                    "ring none"])
        work = Work(one_cell_belts(3), [Source(0, 1, [1]), Parter(0, [2, 1]), Drain(1, 0), Drain(2, 0)])
        self.told(work, ["round 3 1", "source 0 0", "drain 2 0", "drain 3 0", "still 3", "waits 0 2", "ring none"])

    def test_still_with_a_ring(self):
        work = Work([Belt(3, 1), Belt(3, 1)], [Source(0, 1, [4]), Joiner([1, 0], 1)])
        self.told(work, ["round 7 1", "source 0 0", "still 7", "waits 0 1", "ring 1"])
        work = Work([Belt(3, 1), Belt(3, 1)], [Source(1, 1, [4]), Joiner([0, 1], 0)])
        self.told(work, ["round 7 1", "source 0 0", "still 7", "waits 0", "ring 0"])

    def test_no_round(self):
        self.told(long_work(), ["round none"])
        self.told(endless_work(), ["round none"], 1000)
        self.told(line_work(room=2), ["round none"], 1)
        self.told(line_work(room=3, drain_pace=0), ["round none"], 3)

    def test_limits(self):
        self.assertEqual(report(work_text(filling_work(56))).split("\n")[0], "round 56 144")
        self.told(filling_work(57), ["round none"])
        self.assertEqual(report(text=work_text(filling_work(57)), limit=201).split("\n")[0], "round 57 144")
        self.assertEqual(report(work_text(long_work()), 720).split("\n"), [
            "round 0 720", "source 0 1/4", "source 1 1/3", "source 2 1/4", "drain 3 1/4", "drain 4 1/3", "drain 5 1/4",
            "moving"])
        self.told(line_work(), ["round 0 1", "source 0 1", "drain 1 1", "moving"], 1)
        self.told(line_work(room=3, drain_pace=0), ["round 3 1", "source 0 0", "drain 1 0", "still 3", "waits 0",
                                                    "ring none"], 4)


class Refused(unittest.TestCase):
    """[9.1] refusals as read_work's."""

    def test_bad_rows(self):
        for text, line in [("", 1), ("belt 1 1\n", 2), ("belt 1 1\nsource 0 1 1\ndrain 0 5", 3), ("belt 0 1", 1),
                           ("source 0 1 1\nbelt 1 1\ndrain 0 1", 2), (work_text(line_work()) + "\n", 4)]:
            for limit in [1, 1000]:
                with self.assertRaises(BadRow) as caught:
                    report(text, limit)
                self.assertEqual(caught.exception.line, line)

    def test_bad_works(self):
        for text in ["belt 1 1", "belt 1 1\nsource 0 1 1\ndrain 1 1", "source 0 1 1\ndrain 0 1"]:
            for limit in [1, 1000]:
                with self.assertRaises(BadWork):
                    report(text, limit)


class OverWorks(unittest.TestCase):
    """[9.1] over many works, told by the parts that it is made of."""

    def test_each_row(self):
        seen = {}
        for work in sample_works() + [ring_work()] + [thrown_work(seed) for seed in range(80)]:
            told = report(work_text(work)).split("\n")
            wanted = self.rows(work)
            seen[wanted[-1].split(" ")[0]] = True
            self.assertEqual(told, wanted)
        self.assertEqual(sorted(seen), ["moving", "ring", "round"])

    def rows(self, work):
        try:
            rows = ["round " + " ".join(str(part) for part in round_of(work))]
        except TooLong:
            return ["round none"]
        names = {Source: "source", Drain: "drain"}
        for number, counts in enumerate(shares_of(work)):
            name = names.get(type(work.knots[number]))
            if name:
                rows.append(f"{name} {number} {ratio_text(counts[0])}")
        if still_from(work) is None:
            return rows + ["moving"]
        way, ring = waiting_way(work)
        rows.append(f"still {still_from(work)}")
        rows.append("waits" + "".join(f" {belt}" for belt in way))
        rows.append("ring none" if ring is None else f"ring {ring}")
        return rows


if __name__ == "__main__":
    unittest.main()
