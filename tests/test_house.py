"""Houses: edits, undo and redo, times, and their errors."""

import random
import unittest

from hungfacts.changes import Change
from hungfacts.errors import (BadBudget, BadCount, BadDrops, BadRoots, BadTexts, BadUnit, BadUnits, BadValues, HungError,
                              NoFunction, NothingToRedo, NothingToUndo, NoRoot, NoUnit)
from hungfacts.house import House
from hungfacts.making import made
from hungfacts.maderuns import run_made
from hungfacts.programs import Program
from hungfacts.solving import facts
from tests.edits import edited, edited_text
from tests.helper import program, spread, unit
from tests.kinds import KINDS
from tests.makers import ProgramMaker
from tests.test_solving import FOUR, LESS, MAIN

ROOTS = (("a", "f"),)
WORDS = ("ON", "OFF")
A = "unit a / open f p / call x b.g p / end"
B = "unit b / open g q / show q / end"
C = "unit c / cell d ON / open h / get x d / show x / end"


def some(*texts, roots=ROOTS, words=WORDS):
    return program(texts, roots, words)


def texts(*rows):
    return tuple([spread(row) for row in rows])


def told(house):
    """What a house tells of its program, but times, runs, and what can be undone or done again."""
    return (house.program, house.budget, house.facts(), [house.made(name) for name in house.program.names])


def more_told(house):
    return told(house) + (house.edits, [house.times(name) for name in house.program.names], house.behind())


class HouseTest(unittest.TestCase):
    maxDiff = None

    def look(self, house, other):
        """Look at a house that has this program, by all that it tells."""
        self.assertEqual(house.program, other)
        fresh = House(other, budget=house.budget)
        self.assertEqual(told(house), told(fresh))
        self.assertTrue(house == fresh)

    def times(self, house):
        return " ".join([f"{name}{house.times(name)}" for name in house.program.names])

    def raises(self, error, house, *given, **named):
        """What the error of an edit keeps; it changes nothing."""
        before = more_told(house)
        with self.assertRaises(error) as caught:
            house.edit(*given, **named)
        self.assertEqual(more_told(house), before)
        return next(iter(vars(caught.exception).values()))


class TestHouse(HouseTest):
    def test_section_14(self):
        house = House(program(FOUR, MAIN))
        change = house.edit(texts("unit m / open main / call x k.k ON / end"))
        self.assertEqual([name for name, _ in change.anew], ["b", "c", "k", "m"])
        self.assertEqual([house.made("b").text, house.times("k"), house.edits], ["unit b", 2, 1])
        self.assertEqual([house.undo().came == change.fell, house.times("k"), house.program == program(FOUR, MAIN)], [True, 1, True])

    def test_tells_of_its_program(self):
        for budget in (0, 1, 99):
            house = House(some(A, B, C), budget=budget)
            self.assertEqual([house.budget, house.edits, house.facts()], [budget, 0, facts(some(A, B, C))])
            for name in "abc":
                self.assertEqual(house.made(name), made(some(A, B, C), name, budget=budget))
                self.assertEqual(house.times(name), 1)
            for values, most in (((3,), 1), ((3,), 9), (("ON",), 2)):
                self.assertEqual(house.run(("a", "f"), values, most), run_made(house.program, ("a", "f"), values, most, budget=budget))

    def test_attributes_are_set(self):
        house = House(some(A, B))
        for name in ("program", "budget", "edits"):
            self.assertIn(name, vars(house))

    def test_names_of_arguments(self):
        house = House(program=some(A, B), budget=3)
        self.assertRaises(TypeError, House, some(A, B), 3)
        self.assertEqual(house.made(name="a"), house.made("a"))
        self.assertEqual(house.times(name="a"), 1)
        self.assertEqual(house.run(root=("a", "f"), values=(1,), most=9), ("gave", "NONE", (1,)))
        house.edit(texts=texts(C), drops=(), roots=None)
        self.assertRaises(TypeError, house.edit, (), ())


class TestEdits(HouseTest):
    def test_in_the_place_of_others(self):
        house = House(some(A, B))
        change = house.edit(texts(B.replace("show q", "show 1")))
        self.look(house, some(A, B.replace("show q", "show 1")))
        self.assertEqual(change, Change(some(A, B), house.program))
        self.assertEqual([self.times(house), house.edits], ["a2 b2", 1])

    def test_new_units(self):
        house = House(some(A, B))
        change = house.edit(texts(C))
        self.look(house, some(A, B, C))
        self.assertEqual([change.anew, change.kept], [(("c", ("new",)),), ("a", "b")])
        self.assertEqual(self.times(house), "a1 b1 c1")

    def test_drops(self):
        house = House(some(A, B, C))
        change = house.edit((), drops=("c",))
        self.look(house, some(A, B))
        self.assertEqual([change.gone, change.kept, self.times(house)], [("c",), ("a", "b"), "a1 b1"])
        house = House(some(A, B, C, "unit d / open k / end"))
        house.edit((), drops=("d", "c"))
        self.look(house, some(A, B))

    def test_roots(self):
        house = House(some(A, B, C))
        change = house.edit((), roots=(("a", "f"), ("c", "h")))
        self.look(house, some(A, B, C, roots=(("a", "f"), ("c", "h"))))
        self.assertEqual([[name for name, _ in change.anew], self.times(house)], [["c"], "a1 b1 c2"])
        house.edit((), roots=None)
        self.look(house, some(A, B, C, roots=(("a", "f"), ("c", "h"))))

    def test_all_at_once(self):
        house = House(some(A, B, C))
        house.edit(texts("unit e / open k / show 1 / end", B.replace("show q", "call x e.k")), drops=("c",), roots=(("a", "f"), ("e", "k")))
        self.look(house, some(A, B.replace("show q", "call x e.k"), "unit e / open k / show 1 / end", roots=(("a", "f"), ("e", "k"))))
        self.assertEqual([house.edits, self.times(house)], [1, "a2 b2 e1"])

    def test_root_whose_unit_is_dropped(self):
        house = House(some(A, B, C, roots=(("a", "f"), ("c", "h"))))
        self.assertEqual(self.raises(BadRoots, house, (), drops=("c",)), (("a", "f"), ("c", "h")))
        house.edit((), drops=("c",), roots=ROOTS)
        self.look(house, some(A, B))

    def test_unit_that_is_dropped_and_put_in(self):
        house = House(some(A, B, C))
        self.assertEqual(self.raises(BadDrops, house, texts(C), drops=("c",)), ("c",))
        house.edit(texts(C.replace("ON", "OFF")))
        self.assertEqual(house.times("c"), 2)
        house.edit((), drops=("c",))
        house.edit(texts(C))
        self.assertEqual(house.times("c"), 1)
        self.assertEqual([house.edits, self.times(house)], [3, "a1 b1 c1"])

    def test_nothing_changes(self):
        house = House(some(A, B))
        for at, (given, named) in enumerate((((), {}), (texts(B), {}), (texts(A, B), {"roots": ROOTS}), ((), {"drops": (), "roots": None}))):
            change = house.edit(given, **named)
            self.assertEqual([change.anew, change.kept, change.came, change.fell], [(), ("a", "b"), (), ()])
            self.assertEqual([house.edits, self.times(house)], [at + 1, "a1 b1"])
        for _ in range(4):
            house.undo()
        self.assertEqual(house.edits, 0)

    def test_words_stay(self):
        house = House(some(A, B))
        self.assertEqual(self.raises(BadUnit, house, texts("unit c / open h / show A / end")), 3)
        house.edit(texts("unit c / open h / show OFF / end"))
        self.assertEqual(house.program.words, WORDS)

    def test_exactly_those_with_other_answers_are_made_anew(self):
        house = House(some(A, B, C, "unit d / open k p / show p / end", roots=(("a", "f"), ("c", "h"), ("d", "k"))))
        house.edit(texts("unit d / open k p / show 1 / end"))
        self.assertEqual(self.times(house), "a1 b1 c1 d2")
        house.edit(texts(A.replace("b.g p", "b.g ON")))
        # b has only ON for q now.
        self.assertEqual(self.times(house), "a2 b2 c1 d2")
        house.edit(texts(A.replace("b.g p", "b.g ON").replace("end", "show p / end")))
        self.assertEqual(self.times(house), "a3 b2 c1 d2")


class TestErrors(HouseTest):
    def test_budget(self):
        for value in KINDS + (-1, 100):
            if value in (0, 1, 99) and not isinstance(value, bool):
                self.assertEqual(House(some(A, B), budget=value).budget, value)
                continue
            with self.assertRaises(BadBudget) as caught:
                House(some(A, B), budget=value)
            self.assertIs(caught.exception.value, value)

    def test_texts(self):
        house = House(some(A, B))
        for value in KINDS:
            if not isinstance(value, tuple):
                self.assertIs(self.raises(BadTexts, house, value, drops=value, roots=value), value)

    def test_first_text_that_is_none(self):
        house = House(some(A, B))
        wrong = ("unit", "unit c / open h", "unit c / open h / show x / end", "unit c / open h / call x l / end")
        for text, line in zip(wrong, (1, 3, 3, 3)):
            self.assertEqual(self.raises(BadUnit, house, texts(text), drops=None, roots=None), line)
            self.assertEqual(self.raises(BadUnit, house, texts(A, A, text, "unit"), drops=None, roots=1), line)
        for value in KINDS:
            if not isinstance(value, str):
                self.assertEqual(self.raises(BadUnit, house, (spread(A), value, ""), drops=None, roots=[]), 0)
        self.assertEqual(self.raises(BadUnit, house, (spread(A), "", value)), 1)

    def test_two_of_one_name(self):
        house = House(some(A, B))
        given = texts(C, A, C)
        self.assertIs(self.raises(BadUnits, house, given, drops=("a",), roots=None), given)
        given = texts(A, "unit a / open k / end")
        self.assertIs(self.raises(BadUnits, house, given, drops=None, roots=[]), given)

    def test_drops(self):
        house = House(some(A, B, C))
        for value in KINDS + (["c"], "c", ("c", "c"), ("d",), ("c", "d"), ("c", 1), (("c",),), {"c": 1}, ("",), ("c", None)):
            if value not in ((), ("a",)):
                self.assertIs(self.raises(BadDrops, house, texts(A), drops=value, roots=None), value)
        self.assertEqual(self.raises(BadDrops, house, texts(A, C), drops=("b", "c"), roots=[]), ("b", "c"))
        self.assertEqual(self.raises(BadDrops, house, texts("unit d / open k / end"), drops=("d",)), ("d",))

    def test_no_unit_is_left(self):
        house = House(some(A, B))
        for roots in (None, ROOTS, (), [], (("b", "g"),)):
            self.assertEqual(self.raises(BadUnits, house, (), drops=("a", "b"), roots=roots), ())
            self.assertEqual(self.raises(BadUnits, house, (), drops=("b", "a"), roots=roots), ())

    def test_roots(self):
        house = House(some(A, B))
        wrong = ((), [], [("a", "f")], (("a", "f"), ("a", "f")), (("b", "g"), ("a", "f")), (("c", "h"),), (("a", "g"),), (["a", "f"],), 1, "")
        for value in KINDS + wrong:
            if value is not None:
                self.assertIs(self.raises(BadRoots, house, (), roots=value), value)
        # Roots go ahead of calls.
        self.assertEqual(self.raises(BadRoots, house, (), drops=("b",), roots=(("b", "g"),)), (("b", "g"),))
        self.assertEqual(self.raises(BadRoots, house, texts("unit a / open k / end")), ROOTS)

    def test_calls(self):
        house = House(some(A, B))
        self.assertEqual(self.raises(NoFunction, house, (), drops=("b",)), ("a", 3))
        self.assertEqual(self.raises(NoFunction, house, texts("unit b / local g q / end / open k / end")), ("a", 3))
        self.assertEqual(self.raises(NoFunction, house, texts("unit b / open g / end", "unit c / open h / call x d.k / end")), ("a", 3))
        self.assertEqual(self.raises(NoFunction, house, texts("unit c / open h / call x d.k / end")), ("c", 3))

    def test_what_runs_and_names_raise(self):
        house = House(some(A, B))
        for value in KINDS:
            if value != "a":
                for look in (house.made, house.times):
                    with self.assertRaises(NoUnit) as caught:
                        look(value)
                    self.assertIs(caught.exception.value, value)
            if value != ("a", "f"):
                self.assertRaises(NoRoot, house.run, value, value, value)
            self.assertRaises(BadValues, house.run, ("a", "f"), value, value)
        self.assertRaises(BadCount, house.run, ("a", "f"), (1,), 2001)
        house.edit((), roots=(("b", "g"),))
        self.assertRaises(NoRoot, house.run, ("a", "f"), (1,), 5)
        house.edit(texts("unit a / open f p / end"))
        house.edit((), drops=("b",), roots=ROOTS)
        self.assertRaises(NoUnit, house.times, "b")
        self.assertRaises(NoUnit, house.made, "b")


class TestUndo(HouseTest):
    def test_to_the_beginning_and_forth(self):
        house = House(some(A, B))
        given = [(texts(C), {}), (texts(B.replace("show q", "show 1")), {}), ((), {"drops": ("c",)}),
                 (texts(C), {"roots": (("a", "f"), ("c", "h"))}), ((), {}), (texts(A.replace("b.g p", "b.g 1")), {"roots": ROOTS})]
        seen = [more_told(house)]
        for each, named in given:
            house.edit(each, **named)
            seen.append(more_told(house))
        for _ in range(3):
            for at in range(len(given) - 1, -1, -1):
                before = house.program
                change = house.undo()
                self.assertEqual(more_told(house), seen[at])
                self.assertEqual(change, Change(before, house.program))
            self.assertRaises(NothingToUndo, house.undo)
            self.assertEqual(more_told(house), seen[0])
            for at in range(1, len(given) + 1):
                before = house.program
                change = house.redo()
                self.assertEqual(more_told(house), seen[at])
                self.assertEqual(change, Change(before, house.program))
            self.assertRaises(NothingToRedo, house.redo)
            self.assertEqual(more_told(house), seen[-1])

    def test_times(self):
        house = House(some(A, B))
        house.edit(texts(B.replace("show q", "show 1")))
        house.edit(texts(B))
        self.assertEqual(self.times(house), "a3 b3")
        house.edit(texts(A.replace("call x b.g p", "show p")))
        self.assertEqual(self.times(house), "a4 b4")
        house.edit((), drops=("b",))
        house.edit(texts(B))
        self.assertEqual(self.times(house), "a4 b1")
        house.undo()
        self.assertEqual(self.times(house), "a4")
        house.undo()
        self.assertEqual(self.times(house), "a4 b4")
        house.undo()
        house.undo()
        self.assertEqual(self.times(house), "a2 b2")
        house.redo()
        self.assertEqual(self.times(house), "a3 b3")

    def test_an_edit_forgets_what_could_be_done_again(self):
        house = House(some(A, B))
        house.edit(texts(C))
        house.edit(texts(C.replace("ON", "OFF")))
        house.undo()
        house.undo()
        house.redo()
        house.edit(())
        self.assertRaises(NothingToRedo, house.redo)
        self.assertEqual(house.edits, 2)
        house.undo()
        house.undo()
        self.assertRaises(NothingToUndo, house.undo)
        house.redo()
        house.redo()
        self.assertRaises(NothingToRedo, house.redo)

    def test_an_edit_that_raises_forgets_nothing(self):
        house = House(some(A, B))
        house.edit(texts(C))
        house.undo()
        self.assertRaises(BadTexts, house.edit, None)
        self.assertRaises(NoFunction, house.edit, (), drops=("b",))
        house.redo()
        self.look(house, some(A, B, C))

    def test_nothing_to_take_back(self):
        house = House(some(A, B))
        self.assertRaises(NothingToUndo, house.undo)
        self.assertRaises(NothingToRedo, house.redo)
        house.edit(())
        self.assertRaises(NothingToRedo, house.redo)


class TestCopies(HouseTest):
    def test_equality(self):
        one = House(some(A, B))
        self.assertTrue(one == House(some(B, A)))
        for other in (House(some(A, B), budget=1), House(some(A, B, C)), House(some(A, B, roots=(("a", "f"), ("b", "g")))),
                      House(some(A, B, words=("OFF", "ON"))), some(A, B), None, 1, unit("unit a / open f / end")):
            self.assertFalse(one == other)
        for value in KINDS:
            self.assertFalse(one == value)
        other = House(some(A, B))
        other.edit(texts(C))
        self.assertFalse(one == other)
        other.edit((), drops=("c",))
        other.start(("a", "f"), (1,))
        self.assertTrue(one == other)

    def test_copy(self):
        house = House(some(A, B), budget=2)
        house.edit(texts(C))
        house.edit(texts(C.replace("ON", "OFF")))
        house.undo()
        house.start(("a", "f"), (3,))
        copy = house.copy()
        self.assertTrue(copy == house)
        self.assertEqual([copy.edits, copy.budget, self.times(copy), told(copy)], [0, 2, "a1 b1 c1", told(house)])
        self.assertRaises(NothingToUndo, copy.undo)
        self.assertRaises(NothingToRedo, copy.redo)
        self.assertEqual(copy.start(("a", "f"), (4,)), 0)
        self.assertEqual(house.stepper(0).told("p"), ("is", 3))
        copy.edit((), drops=("c",))
        self.assertEqual([house.program.names, copy.program.names], [("a", "b", "c"), ("a", "b")])
        house.undo()
        house.edit(texts(B.replace("show q", "show 1")))
        self.look(copy, some(A, B))

    def test_two_houses_of_one_program(self):
        shared = some(A, B)
        one, other = House(shared), House(shared)
        one.edit(texts(C))
        one.start(("a", "f"), (1,))
        self.look(other, some(A, B))
        self.assertEqual([other.edits, other.start(("a", "f"), (2,))], [0, 0])
        self.assertRaises(NothingToUndo, other.undo)
        self.assertEqual(shared.names, ("a", "b"))


class TestCompare(HouseTest):
    """Rows of made-up edits, undos and redos, beside new houses."""

    def test_made_up_edits(self):
        for seed in range(40):
            luck = random.Random(seed)
            house = House(ProgramMaker(seed, lines=(3, 25), small=0.5).program, budget=luck.choice((0, 1, 99)))
            seen, at, counts = [house.program], 0, [{name: 1 for name in house.program.names}]
            for _ in range(14):
                kind = luck.random()
                before = house.program
                if kind < 0.55:
                    newer = edited(before, luck)
                    put = tuple([each.text for each in newer.units if each not in before.units])
                    change = house.edit(put, drops=tuple([name for name in before.names if name not in newer.names]), roots=newer.roots)
                    seen, counts = seen[:at + 1] + [newer], counts[:at + 1] + [self.counted(change, counts[at])]
                    at += 1
                elif kind < 0.8 and at:
                    at -= 1
                    change = house.undo()
                elif at + 1 < len(seen):
                    at += 1
                    change = house.redo()
                else:
                    continue
                self.look(house, seen[at])
                self.assertEqual(change, Change(before, house.program, budget=house.budget))
                self.assertEqual({name: house.times(name) for name in house.program.names}, counts[at])
                self.assertEqual(house.edits, at)

    def counted(self, change, counts):
        found = {}
        for name in change.newer.names:
            anew = name not in change.kept
            found[name] = 1 if name not in counts else counts[name] + anew
        return found

    def test_made_up_wrong_edits(self):
        seen = set()
        for seed in range(60):
            luck = random.Random(seed)
            house = House(ProgramMaker(seed, lines=(3, 20)).program)
            for _ in range(8):
                names = house.program.names
                given = tuple([edited_text(house.program.unit(name).text, luck) for name in luck.sample(names, luck.randrange(len(names) + 1))])
                drops = tuple(luck.sample(names, luck.randrange(2)))
                before = more_told(house)
                try:
                    house.edit(given, drops=drops)
                    house.undo()
                except HungError as error:
                    seen.add(type(error))
                    self.assertEqual(type(error), self.expected(house.program, given, drops))
                self.assertEqual(more_told(house)[:5], before[:5])
        self.assertLessEqual({BadUnit, BadDrops, BadRoots, NoFunction}, seen)

    def expected(self, elder, given, drops):
        try:
            put = [unit(text, elder.words) for text in given]
            if [each for each in put if each.name in drops]:
                return BadDrops
            left = [each for each in elder.units if each.name not in drops and each.name not in [other.name for other in put]]
            Program(tuple(left + put), elder.roots)
        except HungError as error:
            return type(error)
        return None


if __name__ == "__main__":
    unittest.main()
