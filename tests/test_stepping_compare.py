"""Steppers of made-up programs beside runs of their sources, straight on, back, and over moves to edited programs."""

import random
import unittest

from hungfacts.errors import Barred, Ended, NoName, OtherWords
from hungfacts.maderuns import run_made
from hungfacts.stepping import Stepper
from tests.edits import edited
from tests.makers import ProgramMaker
from tests.plain_steps import SourceRun, Told

MOST = 60


def properties(stepper):
    state = stepper.state() if stepper.outcome is None else None
    return (stepper.places, stepper.shown, stepper.outcome, stepper.done, state)


class Course:
    """A Stepper beside a SourceRun, both going on, and what was told at each stop."""

    def __init__(self, test, program, root, values, budget):
        self.test, self.budget = test, budget
        self.stepper = Stepper(program, root, values, budget=budget)
        self.told = Told(program, budget)
        self.run = SourceRun(program, root, values)
        self.told.go_on(self.run)
        self.trail = []

    def look(self):
        """Whether the Stepper tells what the run has."""
        stepper, run = self.stepper, self.run
        self.test.assertEqual(stepper.places, run.places() or None)
        self.test.assertEqual([stepper.shown, stepper.outcome], [tuple(run.shown), run.outcome])
        if stepper.outcome is None:
            self.test.assertEqual(stepper.state(), self.told.state(run))
            names = [name for name, _ in run.names()[0]]
            for name in ("x", "y", "p", "0"):
                if name not in names:
                    self.test.assertRaises(NoName, stepper.told, name)
            self.test.assertEqual([stepper.told(name) for name in names], [told for _, told in stepper.state()[1][0]])

    def step(self):
        """Take a step, and tell whether the next stop could be found."""
        self.trail.append((self.stepper.program, properties(self.stepper)))
        done = self.stepper.done
        self.run.step()
        if not self.told.go_on(self.run):
            return False
        self.test.assertEqual(self.stepper.step(), self.run.places() or None)
        self.test.assertEqual(self.stepper.done, done + 1)
        return True

    def try_move(self, newer):
        """Move if nothing stands against it; what is returned tells of what stands there, None: the run cannot be found."""
        stepper = self.stepper
        before = properties(stepper)
        told = Told(newer, self.budget)
        found = self.told.against(self.run, told)
        self.test.assertEqual(stepper.against(newer), found)
        self.test.assertEqual(properties(stepper), before)
        if found:
            with self.test.assertRaises(Barred) as caught:
                stepper.move(newer)
            self.test.assertEqual(caught.exception.bars, found)
            self.test.assertEqual(properties(stepper), before)
            return found
        self.run.move(newer)
        if not told.go_on(self.run):
            return None
        self.trail.append((stepper.program, before))
        stepper.move(newer)
        self.test.assertIs(stepper.program, newer)
        self.test.assertEqual([stepper.done, stepper.shown], [before[3], before[1]])
        self.told = told
        return found

    def look_back(self):
        for program, told in self.trail[::-1]:
            self.stepper.back()
            self.test.assertIs(self.stepper.program, program)
            self.test.assertEqual(properties(self.stepper), told)
        self.test.assertRaises(Ended, self.stepper.back)


class TestStraightOn(unittest.TestCase):
    def test_made_up_programs(self):
        ends = {}
        for seed in range(70):
            maker = ProgramMaker(seed, lines=(3, 40), small=0.5)
            for budget in (0, 1, 99):
                for root in maker.roots:
                    values = maker.values(root)
                    course = Course(self, maker.program, root, values, budget)
                    course.look()
                    while course.stepper.outcome is None and len(course.trail) < MOST and course.step():
                        course.look()
                    outcome = course.stepper.outcome
                    if outcome is not None:
                        self.assertEqual(outcome, run_made(maker.program, root, values, 2000, budget=budget))
                    course.look_back()
                    ends[outcome and outcome[0]] = ends.get(outcome and outcome[0], 0) + 1
        self.assertGreater(min(ends["gave"], ends["raised"]), 100)


class TestMoves(unittest.TestCase):
    def test_made_up_edits(self):
        seen = {}
        for seed in range(90):
            luck = random.Random(seed)
            maker = ProgramMaker(seed, lines=(3, 30), small=0.6)
            budget = luck.choice((0, 1, 2, 99))
            for root in maker.roots:
                course = Course(self, maker.program, root, maker.values(root), budget)
                while course.stepper.outcome is None and len(course.trail) < MOST:
                    if luck.random() < 0.4:
                        found = course.try_move(edited(course.stepper.program, luck))
                        if found is None:
                            break
                        for bar in found or (("moved",),):
                            seen[bar[0]] = seen.get(bar[0], 0) + 1
                    elif not course.step():
                        break
                    course.look()
                course.look_back()
        self.assertGreater(seen["moved"], 300)
        self.assertGreater(min(seen["lines"], seen["fact"], seen["root"]), 5)

    def test_other_words(self):
        one, other = [ProgramMaker(1, words=words).program for words in (("ON", "OFF"), ("OFF", "ON"))]
        stepper = Stepper(one, one.roots[0], (1,) * dict(one.unit(one.roots[0][0]).opens)[one.roots[0][1]])
        self.assertRaises(OtherWords, stepper.against, other)


class TestUntil(unittest.TestCase):
    def test_made_up_programs(self):
        for seed in range(40):
            luck = random.Random(seed)
            maker = ProgramMaker(seed, lines=(3, 40), small=0.5)
            for root in maker.roots:
                values = maker.values(root)
                trail, stepper = [], Stepper(maker.program, root, values, budget=seed)
                while stepper.outcome is None and len(trail) < 300:
                    trail.append(stepper.places)
                    stepper.step()
                if stepper.outcome is None or not trail:
                    continue
                for at in luck.sample(range(len(trail)), min(5, len(trail))):
                    jumper = Stepper(maker.program, root, values, budget=seed)
                    wanted = trail[at][0]
                    later = [k for k in range(1, len(trail)) if trail[k][0] == wanted]
                    self.assertIs(jumper.until(*wanted), bool(later))
                    if later:
                        self.assertEqual([jumper.done, jumper.places], [later[0], trail[later[0]]])
                    else:
                        self.assertEqual([jumper.done, jumper.outcome], [len(trail), stepper.outcome])


if __name__ == "__main__":
    unittest.main()
