"""Runs of a house, and trials."""

import random
import unittest

from hungfacts.errors import (BadTexts, BadValues, Ended, NoFunction, NothingToRedo, NothingToUndo, NoRoot, NoRun)
from hungfacts.house import House
from hungfacts.stepping import Stepper
from tests.edits import edited
from tests.kinds import KINDS
from tests.makers import ProgramMaker
from tests.test_house import A, B, C, HouseTest, more_told, some, texts, told
from tests.test_stepping import places, properties

LONG = "unit a / open f p / show 1 / show 2 / call x b.g p / show x / show 3 / end"
G = "unit b / open g q / let y q / show y / give y / end"
ROOT = ("a", "f")
CELL = "cell c ON / "


def shifted(text, many=1):
    """A text with cells behind its first line."""
    head, _, rows = text.partition(" / ")
    return head + " / " + " / ".join(f"cell c{k} ON" for k in range(many)) + " / " + rows


def stand(house):
    """Where all runs of a house stand."""
    found = []
    while True:
        try:
            stepper = house.stepper(len(found))
        except NoRun:
            return found
        found.append(properties(stepper))


class RunsTest(HouseTest):
    def start(self, house, steps=0, values=(7,)):
        """The Stepper of a new run behind some steps."""
        stepper = house.stepper(house.start(ROOT, values))
        for _ in range(steps):
            stepper.step()
        return stepper


class TestRuns(RunsTest):
    def test_numbers(self):
        house = House(some(LONG, G))
        self.assertEqual([house.start(ROOT, (k,)) for k in range(4)], [0, 1, 2, 3])
        self.assertEqual([house.stepper(k).told("p") for k in range(4)], [("is", k) for k in range(4)])
        self.assertEqual(house.start(root=ROOT, values=("ON",)), 4)
        self.assertIs(house.stepper(number=2), house.stepper(2))
        self.assertEqual(house.behind(), ())

    def test_goes_by_the_made_units_of_the_house(self):
        for budget in (0, 1):
            house = House(some(LONG, G), budget=budget)
            stepper, other = self.start(house), Stepper(some(LONG, G), ROOT, (7,), budget=budget)
            while other.outcome is None:
                self.assertEqual(stepper.step(), other.step())
            self.assertEqual(stepper.outcome, other.outcome)

    def test_no_run(self):
        house = House(some(LONG, G))
        for value in KINDS + (0, -1):
            with self.assertRaises(NoRun) as caught:
                house.stepper(value)
            self.assertIs(caught.exception.value, value)
        house.start(ROOT, (1,))
        for value in KINDS + (1, -1, False, True, (0,), "0"):
            if value != 0 or isinstance(value, bool):
                with self.assertRaises(NoRun) as caught:
                    house.stepper(value)
                self.assertIs(caught.exception.value, value)

    def test_start_raises_as_a_stepper(self):
        house = House(some(LONG, G))
        for value in KINDS:
            if value != ROOT:
                with self.assertRaises(NoRoot) as caught:
                    house.start(value, value)
                self.assertIs(caught.exception.value, value)
            with self.assertRaises(BadValues) as caught:
                house.start(ROOT, value)
            self.assertIs(caught.exception.value, value)
        self.assertRaises(NoRoot, house.start, ("b", "g"), (1,))
        self.assertEqual(house.start(ROOT, (1,)), 0)


class TestEdits(RunsTest):
    def test_runs_are_taken_along(self):
        house = House(some(LONG, G))
        one, other = self.start(house, 1), self.start(house, 4)
        self.assertEqual([one.places, other.places], [places("a:4"), places("b:4 a:5")])
        house.edit(texts(shifted(LONG, 2)))
        self.assertEqual([one.places, other.places], [places("a:6"), places("b:4 a:7")])
        self.assertEqual([one.done, one.program == house.program, house.behind()], [1, True, ()])
        house.edit(texts(shifted(G)))
        self.assertEqual([one.places, other.places], [places("a:6"), places("b:5 a:7")])
        house.undo()
        house.undo()
        self.assertEqual([one.places, other.places], [places("a:4"), places("b:4 a:5")])
        house.redo()
        self.assertEqual([one.places, other.places], [places("a:6"), places("b:4 a:7")])
        self.assertIs(house.stepper(0), one)

    def test_runs_that_stay_behind(self):
        house = House(some(LONG, G))
        one, other = self.start(house, 1), self.start(house, 4)
        elder = house.program
        house.edit(texts(G.replace("show y", "show 0")))
        self.assertEqual(house.behind(), ((1, (("lines", "b", 4),)),))
        self.assertEqual([one.program == house.program, other.program == elder], [True, True])
        # It goes on with the made units that it has.
        self.assertEqual([other.step(), other.step()], [places("b:5 a:5"), places("a:6")])
        self.assertEqual(other.shown, (1, 2, 7))
        # What stands against it is told of where it stands now; a later edit takes it along.
        self.assertEqual(house.behind(), ((1, ()),))
        house.edit(())
        self.assertEqual([house.behind(), other.program == house.program], [(), True])
        house.edit(texts(LONG.replace("show 3", "show 4")))
        self.assertEqual(house.behind(), ((0, (("lines", "a", 4),)), (1, (("lines", "a", 6),))))
        house.undo()
        self.assertEqual(house.behind(), ())

    def test_edit_that_changes_nothing(self):
        house = House(some(LONG, G))
        one = self.start(house, 1)
        house.edit(())
        house.edit(texts(LONG))
        # It goes by an equal program, so there is no move to take back.
        one.back()
        self.assertRaises(Ended, one.back)

    def test_moves_are_taken_back(self):
        house = House(some(LONG, G))
        one = self.start(house, 1)
        house.edit(texts(shifted(LONG)))
        self.assertEqual(one.places, places("a:5"))
        one.step()
        one.back()
        self.assertEqual(house.behind(), ())
        one.back()
        self.assertEqual([one.places, one.program == house.program], [places("a:4"), False])
        self.assertEqual(house.behind(), ((0, ()),))
        house.edit(())
        self.assertEqual([one.places, house.behind()], [places("a:5"), ()])
        one.back()
        one.back()
        self.assertEqual([one.places, one.done, house.behind()], [places("a:3"), 0, ((0, ()),)])

    def test_runs_that_have_ended(self):
        house = House(some(LONG, G))
        one = self.start(house)
        while one.outcome is None:
            one.step()
        elder = one.program
        house.edit(texts(shifted(LONG)))
        self.assertIs(one.program, elder)
        self.assertEqual(house.behind(), ())
        one.back()
        self.assertEqual([one.places, house.behind()], [places("a:7"), ((0, ()),)])
        house.undo()
        self.assertEqual([one.program == house.program, house.behind()], [True, ()])
        house.redo()
        self.assertEqual([one.places, one.step(), one.outcome], [places("a:8"), None, ("gave", "NONE", (1, 2, 7, 7, 3))])

    def test_run_that_ends_by_a_move(self):
        text = "unit a / cell c ON / open f p / show p / keep c p / end / open k / get x c / show x / end"
        house = House(some(text, roots=(("a", "f"), ("a", "k"))))
        one = self.start(house, 1)
        house.edit((), roots=(ROOT,))
        self.assertEqual([one.outcome, house.behind()], [("gave", "NONE", (7,)), ()])
        house.undo()
        self.assertEqual(one.outcome, ("gave", "NONE", (7,)))
        one.back()
        self.assertEqual([one.places, house.behind()], [places("a:5"), ()])

    def test_moved_by_hand(self):
        house = House(some(LONG, G))
        one = self.start(house, 1)
        one.move(some(shifted(LONG), G))
        self.assertEqual(house.behind(), ((0, ()),))
        house.edit(())
        self.assertEqual([one.places, house.behind()], [places("a:4"), ()])

    def test_root_that_is_none_any_more(self):
        house = House(some(LONG, G, roots=(ROOT, ("b", "g"))))
        self.start(house, 1)
        number = house.start(("b", "g"), (3,))
        house.edit((), roots=(ROOT,))
        self.assertEqual(house.behind(), ((number, (("root", "b", "g"),)),))
        self.assertRaises(NoRoot, house.start, ("b", "g"), (3,))
        house.undo()
        self.assertEqual(house.behind(), ())

    def test_errors_move_nothing(self):
        house = House(some(LONG, G))
        one = self.start(house, 1)
        before = properties(one)
        self.assertRaises(NoFunction, house.edit, texts("unit b / open k / end"))
        self.assertRaises(BadTexts, house.edit, [])
        self.assertRaises(NothingToUndo, house.undo)
        self.assertRaises(NothingToRedo, house.redo)
        self.assertEqual(properties(one), before)


class Stop(Exception):
    pass


class TestTrials(RunsTest):
    def house(self):
        house = House(some(A, B))
        house.edit(texts(C))
        house.edit(texts(C.replace("ON", "OFF")))
        house.undo()
        return house

    def look_whole(self, house, before):
        """Look at a house that is as it was, also what can be undone and redone."""
        self.assertEqual(more_told(house), before)
        house.redo()
        self.look(house, some(A, B, C.replace("ON", "OFF")))
        self.assertRaises(NothingToRedo, house.redo)
        house.undo()
        house.undo()
        self.look(house, some(A, B))
        self.assertRaises(NothingToUndo, house.undo)

    def test_not_kept(self):
        house = self.house()
        before = more_told(house)
        with house.trial() as trial:
            house.edit((), drops=("c",))
            house.edit(texts(B.replace("show q", "show 1")))
            self.look(house, some(A, B.replace("show q", "show 1")))
            self.assertEqual([house.edits, self.times(house)], [3, "a2 b2"])
        self.assertIsNotNone(trial)
        self.look_whole(house, before)

    def test_kept(self):
        house = self.house()
        with house.trial() as trial:
            house.edit((), drops=("c",))
            self.assertIsNone(trial.keep())
            house.edit(texts(B.replace("show q", "show 1")))
        self.look(house, some(A, B.replace("show q", "show 1")))
        self.assertEqual(house.edits, 3)
        self.assertRaises(NothingToRedo, house.redo)
        for newer in (some(A, B), some(A, B, C), some(A, B)):
            house.undo()
            self.look(house, newer)
        self.assertRaises(NothingToUndo, house.undo)

    def test_errors_that_leave_the_block(self):
        for error in (Stop, KeyError, KeyboardInterrupt):
            for keep in (False, True):
                house = self.house()
                before = more_told(house)
                with self.assertRaises(error):
                    with house.trial() as trial:
                        house.edit((), drops=("c",))
                        if keep:
                            trial.keep()
                        raise error()
                self.look_whole(house, before)

    def test_errors_that_stay_in_the_block(self):
        house = self.house()
        with house.trial() as trial:
            house.edit((), drops=("c",))
            self.assertRaises(NoFunction, house.edit, (), drops=("b",))
            trial.keep()
        self.look(house, some(A, B))

    def test_undo_behind_the_beginning(self):
        for keep in (False, True):
            house = self.house()
            before = more_told(house)
            with house.trial() as trial:
                house.undo()
                self.look(house, some(A, B))
                self.assertRaises(NothingToUndo, house.undo)
                house.edit((), roots=(("a", "f"), ("b", "g")))
                if keep:
                    trial.keep()
            if not keep:
                self.look_whole(house, before)
                continue
            self.look(house, some(A, B, roots=(("a", "f"), ("b", "g"))))
            self.assertEqual(house.edits, 1)
            house.undo()
            self.look(house, some(A, B))
            self.assertRaises(NothingToUndo, house.undo)

    def test_redo_in_a_trial(self):
        house = self.house()
        before = more_told(house)
        with house.trial():
            house.redo()
            house.undo()
            house.undo()
            house.redo()
            house.redo()
        self.look_whole(house, before)

    def test_within_one_another(self):
        for outer in (False, True):
            for inner in (False, True):
                house = self.house()
                before = more_told(house)
                with house.trial() as one:
                    house.edit(texts(B.replace("show q", "show 1")))
                    middle = more_told(house)
                    with house.trial() as other:
                        house.edit((), drops=("c",))
                        if inner:
                            other.keep()
                    if not inner:
                        self.assertEqual(more_told(house), middle)
                    if outer:
                        one.keep()
                if not outer:
                    self.look_whole(house, before)
                else:
                    self.assertEqual([house.edits, len(house.program.names)], [3, 2] if inner else [2, 3])

    def test_one_trial_within_itself(self):
        house = self.house()
        before = more_told(house)
        trial = house.trial()
        with trial:
            house.edit((), drops=("c",))
            middle = more_told(house)
            with trial:
                house.edit(texts(C))
            self.assertEqual(more_told(house), middle)
        self.look_whole(house, before)

    def test_begins_with_its_block(self):
        house = self.house()
        trial = house.trial()
        house.edit((), drops=("c",))
        before = more_told(house)
        with trial:
            house.undo()
        self.assertEqual(more_told(house), before)

    def test_tried(self):
        for keep in (True, False, 1, "True", None, [True], (True,)):
            house = self.house()
            before = more_told(house)

            def look(some_house):
                self.assertIs(some_house, house)
                some_house.edit((), drops=("c",))
                return [self.times(some_house)]

            self.assertEqual(house.tried(look, keep=keep), ["a1 b1"])
            if keep is True:
                self.look(house, some(A, B))
                self.assertEqual(house.edits, 2)
            else:
                self.look_whole(house, before)
        house = self.house()
        before = more_told(house)
        self.assertEqual(house.tried(lambda each: each.undo().gone), ("c",))
        self.assertIs(house.tried(look=lambda each: each), house)
        self.assertRaises(TypeError, house.tried, lambda each: 1, True)
        self.look_whole(house, before)

    def test_tried_with_errors(self):
        def look(house):
            house.edit((), drops=("c",))
            raise Stop()

        for keep in (True, False):
            house = self.house()
            before = more_told(house)
            self.assertRaises(Stop, house.tried, look, keep=keep)
            self.look_whole(house, before)
        house = self.house()
        self.assertRaises(BadTexts, house.tried, lambda each: each.edit(None), keep=True)


class TestRunsInTrials(RunsTest):
    def test_not_kept(self):
        house = House(some(LONG, G))
        one, other = self.start(house, 1), self.start(house, 4)
        before = stand(house)
        with house.trial():
            self.assertIs(house.stepper(0), one)
            one.step()
            other.back()
            house.edit(texts(shifted(LONG)))
            self.assertEqual(house.start(ROOT, (3,)), 2)
            one.until("a", 7)
            in_block = [properties(each) for each in (one, other)]
        self.assertEqual(stand(house), before)
        self.assertRaises(NoRun, house.stepper, 2)
        self.assertEqual([house.stepper(0) is one, house.stepper(1) is other], [False, False])
        # Those of before belong to the house no more: neither is what one does seen in the other.
        self.assertEqual([properties(each) for each in (one, other)], in_block)
        one.step()
        house.stepper(1).step()
        self.assertEqual([house.stepper(0).places, other.places], [before[0][1], in_block[1][1]])
        house.edit(texts(shifted(LONG, 3)))
        self.assertEqual([house.stepper(0).places, properties(other)], [places("a:7"), in_block[1]])
        self.assertEqual(house.start(ROOT, (4,)), 2)

    def test_steps_to_take_back(self):
        house = House(some(LONG, G))
        one = self.start(house, 3)
        house.edit(texts(shifted(LONG)))
        one.step()
        with house.trial():
            for _ in range(4):
                one.back()
            house.undo()
        other = house.stepper(0)
        self.assertEqual([other.places, other.done, other.shown], [places("b:4 a:6"), 4, (1, 2)])
        found = []
        for _ in range(5):
            other.back()
            found.append(other.places)
        self.assertEqual(found, [places(text) for text in ("b:3 a:6", "b:3 a:5", "a:5", "a:4", "a:3")])
        self.assertRaises(Ended, other.back)
        self.assertEqual(other.until("a", 7), True)

    def test_kept(self):
        house = House(some(LONG, G))
        one = self.start(house, 1)
        with house.trial() as trial:
            one.step()
            house.edit(texts(shifted(LONG)))
            number = house.start(ROOT, (3,))
            inner = house.stepper(number)
            trial.keep()
        self.assertEqual([house.stepper(0) is one, house.stepper(1) is inner, one.places], [True, True, places("a:6")])
        self.assertEqual(house.start(ROOT, (4,)), 2)

    def test_runs_that_stay_behind(self):
        house = House(some(LONG, G))
        self.start(house, 4)
        house.edit(texts(G.replace("show y", "show 0")))
        before = house.behind()
        with house.trial():
            house.undo()
            self.assertEqual(house.behind(), ())
            house.stepper(0).step()
        self.assertEqual(house.behind(), before)
        self.assertEqual(house.stepper(0).places, places("b:4 a:5"))

    def test_within_one_another(self):
        house = House(some(LONG, G))
        self.start(house, 1)
        with house.trial():
            house.stepper(0).step()
            middle = stand(house)
            with house.trial():
                house.stepper(0).step()
                house.start(ROOT, (1,))
            self.assertEqual(stand(house), middle)
            with house.trial() as trial:
                house.stepper(0).step()
                trial.keep()
            self.assertEqual(house.stepper(0).done, 3)
        self.assertEqual([house.stepper(0).done, len(stand(house))], [1, 1])

    def test_run_that_has_ended(self):
        house = House(some(LONG, G))
        one = self.start(house, 7)
        self.assertEqual(one.places, places("a:7"))
        with house.trial():
            one.step()
            self.assertEqual(one.outcome, ("gave", "NONE", (1, 2, 7, 7, 3)))
        self.assertEqual([house.stepper(0).outcome, house.stepper(0).shown], [None, (1, 2, 7, 7)])
        house.stepper(0).step()
        with house.trial():
            house.stepper(0).back()
        self.assertEqual([house.stepper(0).outcome, house.stepper(0).places], [("gave", "NONE", (1, 2, 7, 7, 3)), None])

    def test_errors_that_leave_the_block(self):
        house = House(some(LONG, G))
        self.start(house, 1)
        before = stand(house)
        with self.assertRaises(Stop):
            with house.trial() as trial:
                trial.keep()
                house.stepper(0).step()
                house.start(ROOT, (1,))
                raise Stop()
        self.assertEqual(stand(house), before)


class TestCompare(RunsTest):
    """Made-up rows of edits, undos, redos, trials and steps, beside Steppers that are moved by hand."""

    def test_made_up_rows(self):
        kept_behind = moved = 0
        for seed in range(40):
            luck = random.Random(seed)
            maker = ProgramMaker(seed, lines=(3, 25), small=0.5)
            house = House(maker.program, budget=luck.choice((0, 1, 99)))
            doubles = []
            for _ in range(25):
                kind = luck.random()
                before = house.program
                if kind < 0.3:
                    root = luck.choice(house.program.roots)
                    if root in maker.roots and dict(maker.shared[root[0]]) == dict(house.program.unit(root[0]).opens):
                        values = maker.values(root)
                        self.assertEqual(house.start(root, values), len(doubles))
                        doubles.append(Stepper(house.program, root, values, budget=house.budget))
                elif kind < 0.6 and doubles:
                    number = luck.randrange(len(doubles))
                    for stepper in (house.stepper(number), doubles[number]):
                        if stepper.outcome is None:
                            stepper.step()
                else:
                    self.change(house, luck, kind)
                for number, stepper in enumerate(doubles):
                    if house.program != before and stepper.outcome is None and stepper.program != house.program:
                        if not stepper.against(house.program):
                            stepper.move(house.program)
                            moved += 1
                self.assertEqual(stand(house), [properties(stepper) for stepper in doubles])
                behind = tuple([(number, stepper.against(house.program)) for number, stepper in enumerate(doubles)
                                if stepper.outcome is None and stepper.program != house.program])
                self.assertEqual(house.behind(), behind)
                kept_behind += len(behind)
        self.assertGreater(min(kept_behind, moved), 60)

    def change(self, house, luck, kind):
        if kind > 0.85:
            before = (told(house), stand(house), house.edits)
            with house.trial():
                self.change(house, luck, luck.choice((0.65, 0.75, 0.82)))
                if house.program.roots:
                    root = house.program.roots[0]
                    house.start(root, (1,) * dict(house.program.unit(root[0]).opens)[root[1]])
                self.step_all(house)
            self.assertEqual((told(house), stand(house), house.edits), before)
        elif kind < 0.7 or not house.edits:
            before = house.program
            newer = edited(before, luck)
            house.edit(tuple([each.text for each in newer.units]), drops=tuple([name for name in before.names if name not in newer.names]),
                       roots=newer.roots)
        elif kind < 0.79:
            house.undo()
        else:
            try:
                house.redo()
            except NothingToRedo:
                house.undo()

    def step_all(self, house):
        for number in range(len(stand(house))):
            if house.stepper(number).outcome is None:
                house.stepper(number).step()


if __name__ == "__main__":
    unittest.main()
