"""Made runs, Steppers, changes and houses at the greatest sizes: each call answers, and does so soon."""

import random
import unittest

from hungfacts.changes import Change
from hungfacts.errors import Endless, HungError
from hungfacts.house import House
from hungfacts.maderuns import run_made
from hungfacts.stepping import Stepper
from tests.edits import edited, edited_text
from tests.helper import program
from tests.test_sizes import LONG, SizeTest, big_programs

ROOT = ("a", "f")
DEEP = "unit a / open f n / call x l n / end / local l n / let m n + 1 / call x l m / end"


class TestSizes(SizeTest):
    def test_made_runs(self):
        for maker in big_programs():
            for root in maker.roots:
                for budget in (0, 3, 99):
                    self.soon(lambda: run_made(maker.program, root, maker.values(root), 2000, budget=budget))

    def test_many_goes(self):
        rows = ["unit a", "open f", "let n 0", "while 0 < 1"] + ["set n n + 1"] * 53 + ["show n", "end", "end"]
        some = program(("\n".join(rows),), (ROOT,))
        self.assertEqual(self.soon(run_made, some, ROOT, (), 2000), ("tired",))
        stepper = Stepper(some, ROOT, ())
        self.soon(lambda: [stepper.step() for _ in range(8000)])
        self.assertEqual(stepper.done, 8000)
        self.soon(lambda: [stepper.back() for _ in range(8000)])
        self.assertEqual([stepper.done, stepper.shown], [0, ()])

    def test_deep_recursion(self):
        some = program((DEEP,), (ROOT,))
        self.assertEqual(self.soon(run_made, some, ROOT, (0,), 2000), ("tired",))
        stepper = Stepper(some, ROOT, (0,))
        with self.assertRaises(Endless):
            self.soon(stepper.until, "a", 3)
        self.soon(lambda: [stepper.step() for _ in range(3000)])
        self.assertEqual(len(stepper.places), 1501)
        self.assertEqual(len(self.soon(stepper.state)[1]), 1501)
        moved = program(("unit a / cell c ON / " + DEEP[len("unit a / "):],), (ROOT,))
        self.assertEqual(self.soon(stepper.against, moved), ())
        self.soon(stepper.move, moved)
        self.soon(lambda: [stepper.step() for _ in range(100)])
        self.soon(lambda: [stepper.back() for _ in range(3101)])
        self.assertEqual(stepper.done, 0)

    def test_houses_behind_many_edits(self):
        for at, maker in enumerate(big_programs()[:2]):
            luck = random.Random(at)
            house = House(maker.program, budget=5 * at)
            for root in maker.roots:
                stepper = house.stepper(house.start(root, maker.values(root)))
                for _ in range(10):
                    if stepper.outcome is None:
                        stepper.step()
            done = 0
            while done < 60:
                text = edited_text(house.program.unit(luck.choice(house.program.names)).text, luck)
                try:
                    self.soon(house.edit, (text,))
                except HungError:
                    continue
                done += 1
                self.soon(house.behind)
            seen = house.facts()
            self.soon(lambda: [house.undo() for _ in range(60)])
            self.assertEqual([house.edits, house.program], [0, maker.program])
            self.soon(lambda: [house.redo() for _ in range(60)])
            self.assertEqual([house.edits, house.facts()], [60, seen])

    def test_many_trials(self):
        maker = big_programs()[0]
        house = House(maker.program)
        house.start(maker.roots[0], maker.values(maker.roots[0]))

        def nested(some, many=30):
            return some.tried(lambda each: nested(each, many - 1)) if many else some.edits
        self.soon(nested, house)
        self.soon(lambda: [house.tried(lambda each: each.edit(())) for _ in range(100)])
        self.assertEqual(house.edits, 0)

    def test_changes(self):
        for at, maker in enumerate(big_programs()):
            other = edited(maker.program, random.Random(at))
            self.soon(lambda: Change(maker.program, other, budget=99))

    def test_long_strings(self):
        some = program((DEEP,), (ROOT,))
        stepper, house = Stepper(some, ROOT, (0,)), House(some)
        for look in (lambda: stepper.told(LONG), lambda: stepper.until(LONG, 3), lambda: stepper.until("a", 10 ** 18 - 1),
                     lambda: house.edit((LONG,)), lambda: house.edit((), drops=(LONG,)), lambda: house.edit((), roots=((LONG, LONG),)),
                     lambda: house.times(LONG), lambda: house.start((LONG, "f"), ()), lambda: house.stepper(10 ** 18 - 1)):
            with self.assertRaises(HungError):
                self.soon(look)


if __name__ == "__main__":
    unittest.main()
