"""Whys, texts and desks at the greatest sizes: each call answers, and does so soon."""

import random
import unittest

from hungfacts.changes import Change
from hungfacts.desk import Desk
from hungfacts.errors import BadLine, HungError
from hungfacts.facttexts import read_fact, read_summary, show_fact, show_summary
from hungfacts.house import House
from hungfacts.solving import facts
from hungfacts.stored import read_house, stored
from hungfacts.whys import shows_why, why
from tests.edits import edited
from tests.helper import program, unit
from tests.test_sizes import LONG, SizeTest, big_programs
from tests.test_summary_sizes import TWO, UNITS


class TestSizes(SizeTest):
    def test_stored_houses(self):
        for at, maker in enumerate(big_programs()):
            house = House(maker.program, budget=20 * at % 100)
            text = self.soon(stored, house)
            self.assertTrue(self.soon(read_house, text) == house)
            with self.assertRaises(HungError):
                self.soon(read_house, text.replace("\n", "\n\n"))

    def test_whys(self):
        found = 0
        for at, maker in enumerate(big_programs() * 4):
            other = edited(maker.program, random.Random(at), 1)
            change = Change(maker.program, other, budget=99)
            for name, reason in change.anew:
                if reason[0] == "answer":
                    self.assertTrue(self.soon(shows_why, change, name, self.soon(why, change, name)))
                    found += 1
        self.assertGreater(found, 3)

    def test_long_chain(self):
        """A chain through all lines of a long unit."""
        rows = " / ".join(f"let x{k} {'x' + str(k - 1) if k else 'p'}" for k in range(50))
        a, b = "unit a / open f p / call y b.g p / show y / end", f"unit b / open g p / {rows} / give x49 / end"

        def some(*texts):
            return program(texts, (("a", "f"),), TWO)
        change = Change(some(a.replace("show y", "show 1"), b), some(a, b))
        # What y has may matter, so does what g gives, and so each of its names.
        self.assertEqual(dict(change.anew)["b"][1], ("needed", "b", "g", "x0"))
        self.assertEqual(len(self.soon(why, change, "b")[1]), 52)
        change = Change(some(a, b.replace("give x49", "give ON")), some(a, b))
        self.assertEqual(dict(change.anew)["a"][1], ("needed", "b", "g", "0"))
        self.assertEqual(len(self.soon(why, change, "a")[1]), 51)

    def test_summaries(self):
        for text in UNITS:
            some = unit(text, TWO)
            shown = self.soon(show_summary, some)
            self.assertEqual(self.soon(show_summary, some), shown)
            self.soon(read_summary, shown)

    def test_desks(self):
        maker = big_programs()[0]
        desk = Desk(stored(House(maker.program, budget=9)))
        known = facts(maker.program)
        self.soon(lambda: [desk.say("is " + show_fact(each)) for each, _ in known])
        self.soon(lambda: [desk.say("way " + show_fact(each)) for each, _ in known[::9]])
        for root in maker.roots:
            values = " ".join(map(str, maker.values(root)))
            self.soon(desk.say, f"run {root[0]} {root[1]} {values}".strip())
            self.soon(desk.say, f"start {root[0]} {root[1]} {values}".strip())
        for name in maker.program.names:
            self.soon(desk.say, "put " + maker.program.unit(name).text.replace("\n", " / "))
            self.soon(desk.say, f"made {name}")
            self.soon(desk.say, f"why {name}")
        self.soon(lambda: [desk.say(word) for _ in range(30) for word in ("undo", "redo")])

    def test_long_strings(self):
        desk = Desk(stored(House(big_programs()[0].program)))
        for line in ("put " + LONG, "drop " + LONG, "run a " + LONG, "is " + LONG, "way called a " + LONG, "made " + LONG, "why " + LONG,
                     "alike a " + LONG, "start " + LONG + " f", "value 0 " + LONG, "put " + " / ".join(["a"] * 15000)):
            with self.assertRaises(HungError):
                self.soon(desk.say, line)
        for line in (LONG, "a " * 30000, "run a f " + "ABCDEFG " * 7000, "/" * 60000, " " * 60000):
            with self.assertRaises(BadLine):
                self.soon(desk.say, line)
        for look in (read_fact, read_summary, read_house, show_fact):
            for value in (LONG, "\n" * 60000, " " * 60000, "called a f <- called a f\n" * 2000):
                with self.assertRaises(HungError):
                    self.soon(look, value)


if __name__ == "__main__":
    unittest.main()
