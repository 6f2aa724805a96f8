import unittest

from beltshares.errors import BadKnot, WorkError
from beltshares.knots import Drain, FirstParter, Joiner, Knot, Parter, Sieve, Source

from tests.samples import BAD_KINDS, MOST_KIND, fields_of

FAR = 10 ** 60
SIX = [Source, Drain, Parter, FirstParter, Sieve, Joiner]


def one_of_each():
    return [
        Source(3, 2, [1, 2]),
        Drain(4, 0),
        Parter(0, [1, 2]),
        FirstParter(5, [7, 6, 8]),
        Sieve(2, [9, 1], 0),
        Joiner([4, 0], 3),
    ]


class KnotTest(unittest.TestCase):
    def refused(self, make, *handed):
        with self.subTest(make=make.__name__, handed=handed):
            with self.assertRaises(BadKnot) as caught:
                make(*handed)
            self.assertIsInstance(caught.exception, WorkError)


class Fields(KnotTest):
    """[2.2] what each class holds."""

    def test_fields_of_each(self):
        self.assertEqual([fields_of(knot) for knot in one_of_each()], [
            ["Source", ("pace", 2), ("ins", []), ("outs", [3]), ("kinds", [1, 2])],
            ["Drain", ("pace", 0), ("ins", [4]), ("outs", [])],
            ["Parter", ("ins", [0]), ("outs", [1, 2])],
            ["FirstParter", ("ins", [5]), ("outs", [7, 6, 8])],
            ["Sieve", ("ins", [2]), ("outs", [9, 1]), ("kind", 0)],
            ["Joiner", ("ins", [4, 0]), ("outs", [3])],
        ])

    def test_each_is_a_knot_and_no_other(self):
        for knot, own in zip(one_of_each(), SIX, strict=True):
            self.assertIsInstance(knot, Knot)
            for kind in SIX:
                with self.subTest(own=own.__name__, kind=kind.__name__):
                    self.assertEqual(isinstance(knot, kind), kind is own)

    def test_a_bare_knot_has_its_fields(self):
        ins = [1, 2]
        outs = [0]
        knot = Knot(ins, outs)
        ins.append(3)
        outs.append(4)
        self.assertEqual((knot.ins, knot.outs), ([1, 2], [0]))

    def test_lists_changed_afterwards_change_nothing(self):
        for make in [Parter, FirstParter, lambda into, outs: Sieve(into, outs, 1)]:
            outs = [1, 2]
            knot = make(0, outs)
            outs[0] = 9
            outs.append(3)
            self.assertEqual(knot.outs, [1, 2])
        ins = [1, 2]
        joiner = Joiner(ins, 0)
        ins.clear()
        self.assertEqual(joiner.ins, [1, 2])
        self.assertEqual(joiner.choice([None, 5], [True], 0, 0), (1, 0, 0))
        kinds = [1, 2]
        source = Source(0, 1, kinds)
        kinds[1] = 7
        kinds.append(3)
        self.assertEqual(source.kinds, [1, 2])

    def test_lists_handed_in_stay(self):
        outs = [2, 1]
        kinds = [3, 1, 3]
        for knot in [Parter(0, outs), FirstParter(0, outs), Sieve(0, outs, 1), Joiner(outs, 0), Source(0, 1, kinds)]:
            self.assertIsNot(knot.ins, outs)
            self.assertIsNot(knot.outs, outs)
        self.assertEqual((outs, kinds), ([2, 1], [3, 1, 3]))

    def test_two_knots_share_nothing(self):
        one = Source(0, 1, [4])
        other = Source(1, 2, [5, 6])
        self.assertEqual((one.outs, one.pace, one.kinds), ([0], 1, [4]))
        self.assertEqual((other.outs, other.pace, other.kinds), ([1], 2, [5, 6]))

    def test_any_belt_number_is_taken(self):
        self.assertEqual(Source(-1, 1, [0]).outs, [-1])
        self.assertEqual(Drain(FAR, 1).ins, [FAR])
        self.assertEqual(Parter(1, [1, 1]).outs, [1, 1])


class Bounds(KnotTest):
    """[2.2] every bound, and just beyond it."""

    def test_source_paces(self):
        for pace in [1, 2, 3, 4]:
            self.assertEqual(Source(0, pace, [1]).pace, pace)
        for pace in [0, -1, 5, 6, FAR, -FAR]:
            self.refused(Source, 0, pace, [1])

    def test_drain_paces(self):
        for pace in [0, 1, 2, 3, 4]:
            self.assertEqual(Drain(0, pace).pace, pace)
        for pace in [-1, -2, 5, 6, FAR, -FAR]:
            self.refused(Drain, 0, pace)

    def test_number_of_kinds(self):
        for many in [1, 2, 3, 4, 5, 6]:
            self.assertEqual(Source(0, 1, [9] * many).kinds, [9] * many)
        for many in [0, 7, 8, 100]:
            self.refused(Source, 0, 1, [9] * many)

    def test_kinds_of_a_source(self):
        for many in [1, 3, 6]:
            for place in range(many):
                for kind in [0, 1, MOST_KIND]:
                    kinds = [4] * many
                    kinds[place] = kind
                    self.assertEqual(Source(0, 1, kinds).kinds, kinds)
                for kind in BAD_KINDS:
                    kinds = [4] * many
                    kinds[place] = kind
                    self.refused(Source, 0, 1, kinds)

    def test_kind_of_a_sieve(self):
        for kind in [0, 1, MOST_KIND]:
            self.assertEqual(Sieve(0, [1, 2], kind).kind, kind)
        for kind in BAD_KINDS:
            self.refused(Sieve, 0, [1, 2], kind)

    def test_number_of_outs(self):
        for make in [Parter, FirstParter]:
            for many in [2, 3, 4]:
                self.assertEqual(make(0, list(range(many))).outs, list(range(many)))
            for many in [0, 1, 5, 6, 24]:
                self.refused(make, 0, list(range(many)))
        self.assertEqual(Sieve(0, [1, 2], 3).outs, [1, 2])
        for many in [0, 1, 3, 4, 5]:
            self.refused(Sieve, 0, list(range(many)), 3)

    def test_number_of_ins(self):
        for many in [2, 3, 4]:
            self.assertEqual(Joiner(list(range(many)), 9).ins, list(range(many)))
        for many in [0, 1, 5, 6, 24]:
            self.refused(Joiner, list(range(many)), 9)


def patterns(many):
    """All lists of so many parts, each True or False."""
    return [[bool(number >> place & 1) for place in range(many)] for number in range(2 ** many)]


def heads_for(pattern):
    """Heads with a ware, of kind 0 among others, just where the pattern tells."""
    return [place * 3 if there else None for place, there in enumerate(pattern)]


class Choice(KnotTest):
    """[2.3]"""

    def told(self, knot, heads, free, turn, side, wanted):
        """Asks for a choice, which must leave the lists that it is handed as they are."""
        kept = (list(heads), list(free))
        with self.subTest(knot=fields_of(knot), heads=heads, free=free, turn=turn, side=side):
            self.assertEqual(knot.choice(heads, free, turn, side), wanted)
            self.assertEqual((heads, free), kept)

    def test_source(self):
        for pace in [1, 2, 3, 4]:
            source = Source(0, pace, [0])
            for turn in [0, 1, 2, 3, 4, 5, 6, 7, 8, 9, 12, FAR, FAR + 1, 12 * FAR, 12 * FAR + 6]:
                for side in [0, 1, 2, 3]:
                    gives = turn % pace == 0
                    self.told(source, [], [True], turn, side, (None, 0, side) if gives else None)
                    self.told(source, [], [False], turn, side, None)

    def test_drain(self):
        for pace in [1, 2, 3, 4]:
            drain = Drain(0, pace)
            for turn in [0, 1, 2, 3, 4, 5, 6, 7, 8, 9, 12, FAR, FAR + 1, 12 * FAR, 12 * FAR + 6]:
                for side in [0, 1, 2, 3]:
                    takes = turn % pace == 0
                    for kind in [0, 8, MOST_KIND]:
                        self.told(drain, [kind], [], turn, side, (0, None, side) if takes else None)
                    self.told(drain, [None], [], turn, side, None)

    def test_shut_drain(self):
        drain = Drain(0, 0)
        for turn in [0, 1, 2, 12, FAR]:
            for side in [0, 1, 2, 3]:
                for head in [None, 0, 4]:
                    self.told(drain, [head], [], turn, side, None)

    def test_parter(self):
        for many in [2, 3, 4]:
            parter = Parter(9, list(range(many)))
            for free in patterns(many):
                for side in range(many):
                    order = list(range(side, many)) + list(range(side))
                    open_ones = [place for place in order if free[place]]
                    wanted = None
                    if open_ones:
                        wanted = (0, open_ones[0], 0 if open_ones[0] == many - 1 else open_ones[0] + 1)
                    for turn in [0, 1, 7, FAR]:
                        self.told(parter, [0], free, turn, side, wanted)
                        self.told(parter, [MOST_KIND], free, turn, side, wanted)
                        self.told(parter, [None], free, turn, side, None)

    def test_parter_by_hand(self):
        parter = Parter(0, [5, 3, 4])
        self.told(parter, [1], [True, True, True], 0, 0, (0, 0, 1))
        self.told(parter, [1], [True, True, True], 0, 1, (0, 1, 2))
        self.told(parter, [1], [True, True, True], 0, 2, (0, 2, 0))
        self.told(parter, [1], [True, False, False], 0, 1, (0, 0, 1))
        self.told(parter, [1], [True, False, False], 0, 2, (0, 0, 1))
        self.told(parter, [1], [False, True, False], 0, 2, (0, 1, 2))
        self.told(parter, [1], [False, False, True], 0, 0, (0, 2, 0))
        self.told(parter, [1], [False, False, False], 0, 1, None)

    def test_first_parter(self):
        for many in [2, 3, 4]:
            first = FirstParter(9, list(range(many)))
            for free in patterns(many):
                for side in [0, 1, 2, 3]:
                    wanted = (0, free.index(True), side) if True in free else None
                    for turn in [0, 1, 7, FAR]:
                        self.told(first, [0], free, turn, side, wanted)
                        self.told(first, [None], free, turn, side, None)

    def test_sieve(self):
        for kind in [0, 6, MOST_KIND]:
            sieve = Sieve(0, [1, 2], kind)
            for free in patterns(2):
                for side in [0, 1, 2, 3]:
                    for turn in [0, 1, 7, FAR]:
                        self.told(sieve, [kind], free, turn, side, (0, 0, side) if free[0] else None)
                        for other in [1, 5, MOST_KIND - 1]:
                            self.told(sieve, [other], free, turn, side, (0, 1, side) if free[1] else None)
                        self.told(sieve, [None], free, turn, side, None)

    def test_a_sieve_tells_kind_0_from_others(self):
        self.told(Sieve(0, [1, 2], 3), [0], [True, True], 0, 0, (0, 1, 0))
        self.told(Sieve(0, [1, 2], 0), [3], [True, True], 0, 0, (0, 1, 0))
        self.told(Sieve(0, [1, 2], 0), [0], [True, True], 0, 0, (0, 0, 0))

    def test_joiner(self):
        for many in [2, 3, 4]:
            joiner = Joiner(list(range(many)), 9)
            for there in patterns(many):
                heads = heads_for(there)
                for side in range(many):
                    order = list(range(side, many)) + list(range(side))
                    full = [place for place in order if there[place]]
                    wanted = None
                    if full:
                        wanted = (full[0], 0, 0 if full[0] == many - 1 else full[0] + 1)
                    for turn in [0, 1, 7, FAR]:
                        self.told(joiner, heads, [True], turn, side, wanted)
                        self.told(joiner, heads, [False], turn, side, None)

    def test_joiner_by_hand(self):
        joiner = Joiner([5, 3, 4], 0)
        self.told(joiner, [0, 0, 0], [True], 0, 0, (0, 0, 1))
        self.told(joiner, [0, 0, 0], [True], 0, 2, (2, 0, 0))
        self.told(joiner, [0, None, None], [True], 0, 1, (0, 0, 1))
        self.told(joiner, [None, 0, None], [True], 0, 2, (1, 0, 2))
        self.told(joiner, [None, None, None], [True], 0, 1, None)


if __name__ == "__main__":
    unittest.main()
