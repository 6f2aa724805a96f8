import ast
import importlib
import inspect
import pathlib
import unittest

import beltshares
from beltshares.knots import Drain, FirstParter, Joiner, Parter, Sieve, Source
from beltshares.reading import read_work
from beltshares.reports import report
from beltshares.works import Work
from beltshares.writing import work_text

from tests.samples import one_cell_belts, six_kinds_work, thrown_work, work_fields

FOLDER = pathlib.Path(beltshares.__file__).parent

# The interface: the arguments of each function, class and method, with what is left out of them.
INTERFACE = {
    "ratios": ["common(one, other)", "ratio(top, bottom)", "ratio_sum(one, other)", "ratio_times(one, many)",
               "ratio_less(one, other)", "ratio_text(one)", "lasting(paces)"],
    "belts": ["Belt(room, pace)"],
    "knots": ["Knot(ins, outs)", "Source(out, pace, kinds)", "Drain(into, pace)", "Parter(into, outs)",
              "FirstParter(into, outs)", "Sieve(into, outs, kind)", "Joiner(ins, out)"],
    "works": ["Work(belts, knots)"],
    "words": ["number_from(word)"],
    "writing": ["work_text(work)"],
    "reading": ["read_work(text)"],
    "states": ["State(turn, cells, sides, gone)", "kind_of(work, ware)", "empty_state(work)"],
    "turns": ["one_turn(work, state)", "moves_of(work, state)"],
    "plays": ["played(work, turns)", "log_of(work, turns)"],
    "shapes": ["alike(work, one, other)", "shape_of(work, state)"],
    "rounds": ["round_of(work, limit=200)"],
    "leaps": ["origins_of(before, after)", "leapt(work, turns, limit=200)"],
    "shares": ["round_counts(work, limit=200)", "shares_of(work, limit=200)"],
    "evenness": ["with_paces(work, paces)", "uneven_pair(paces, taken)", "settings_of(menus)",
                 "even_fault(work, menus, limit=200)"],
    "waiting": ["still_from(work, limit=200)", "waiting_way(work, limit=200)"],
    "maker": ["even_work(ways, kinds, pace=2)"],
    "reports": ["report(text, limit=200)"],
}
METHODS = {
    Work: ["feeder(self, belt)", "taker(self, belt)", "drains(self)", "sources(self)", "beat(self)"],
}


class Interface(unittest.TestCase):
    """The names and arguments of the interface."""

    def test_functions_and_classes(self):
        for module, forms in INTERFACE.items():
            for form in forms:
                with self.subTest(module=module, form=form):
                    name = form.split("(")[0]
                    thing = getattr(importlib.import_module(f"beltshares.{module}"), name)
                    self.assertEqual(thing.__module__, f"beltshares.{module}")
                    self.assertEqual(f"{name}{inspect.signature(thing)}", form)

    def test_methods(self):
        for own, forms in METHODS.items():
            for form in forms:
                name = form.split("(")[0]
                self.assertEqual(f"{name}{inspect.signature(getattr(own, name))}", form)
        for own in [Source, Drain, Parter, FirstParter, Sieve, Joiner]:
            self.assertEqual(str(inspect.signature(own.choice)), "(self, heads, free, turn, side)")


class Plain(unittest.TestCase):
    """[0.2] no clock, chance or files: the package draws from nothing but itself."""

    def test_imports(self):
        for file in FOLDER.glob("*.py"):
            for node in ast.walk(ast.parse(file.read_text())):
                self.assertNotIsInstance(node, ast.Import)
                if isinstance(node, ast.ImportFrom):
                    self.assertEqual((node.module.split(".")[0], node.level), ("beltshares", 0))

    def test_nothing_is_read_or_written(self):
        for file in FOLDER.glob("*.py"):
            names = [node.id for node in ast.walk(ast.parse(file.read_text())) if isinstance(node, ast.Name)]
            for name in ["open", "input", "print", "hash", "id", "exec", "eval"]:
                self.assertNotIn(name, names)


class Whole(unittest.TestCase):
    """[0.2], [0.3] over the whole program."""

    def test_asked_again_all_is_the_same(self):
        for seed in range(20):
            text = work_text(thrown_work(seed))
            self.assertEqual(report(text), report(text))
            self.assertEqual(work_text(read_work(text)), text)

    def test_a_work_of_a_works_own_lists(self):
        work = six_kinds_work()
        before = work_fields(work)
        other = Work(work.belts, work.knots)
        self.assertEqual(work_fields(other), before)
        other.belts.pop()
        other.knots.clear()
        self.assertEqual(work_fields(work), before)

    def test_belts_and_knots_are_numbered_in_their_order(self):
        work = Work(one_cell_belts(2), [Drain(1, 3), Source(0, 2, [1]), Drain(0, 4), Source(1, 1, [1])])
        self.assertEqual((work.drains(), work.sources()), ([0, 2], [1, 3]))
        self.assertEqual([work.knots[number].pace for number in range(4)], [3, 2, 4, 1])


if __name__ == "__main__":
    unittest.main()
