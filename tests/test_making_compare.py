"""Made units of made-up programs, held against plain ones and against the runs of their programs."""

import unittest

from hungfacts.errors import BadUnit
from hungfacts.making import made
from hungfacts.programs import Program
from hungfacts.runs import run
from hungfacts.units import Unit
from tests.makers import ProgramMaker
from tests.plain_making import PlainMade


def outcome_of(found):
    """An outcome without its places, as made units stand on other lines."""
    return found[:2] + found[3:] if found[0] == "raised" else found


class TestCompare(unittest.TestCase):
    def setUp(self):
        self.counts = {"put": 0, "runs": 0}

    def made_texts(self, maker, budget):
        texts = []
        for name in maker.program.names:
            found, plain = made(maker.program, name, budget=budget), PlainMade(maker.program, name, budget)
            self.assertEqual((found.text, found.origins, found.asked), (plain.text, plain.origins, plain.asked))
            self.assertEqual(len(found.origins), found.text.count("\n") + 1)
            self.counts["put"] += any(len(origin) > 1 for origin in found.origins)
            texts.append(found.text)
        return texts

    def program_of(self, maker, texts):
        """The program of made units, None if one of them calls its own open functions, which no unit may."""
        units = []
        for text in texts:
            rows = [row.split(" ") for row in text.split("\n")]
            if any(row[0] in ("open", "local") for row in rows):
                try:
                    units.append(Unit(maker.words, text))
                except BadUnit as wrong:
                    self.assertTrue(rows[wrong.line - 1][2].startswith(rows[0][1] + "."))
                    return None
        return Program(tuple(units), maker.roots)

    def test_made_up_programs(self):
        for seed in range(90):
            maker = ProgramMaker(seed, size=3 + seed % 2, small=0.7 * (seed % 3 > 0))
            for budget in (0, 1 + seed % 3, 99):
                with self.subTest(maker.texts, budget=budget):
                    self.look(maker, budget)
        self.assertGreater(self.counts["put"], 15)
        self.assertGreater(self.counts["runs"], 100)

    def look(self, maker, budget):
        some = self.program_of(maker, self.made_texts(maker, budget))
        if some is None:
            self.assertGreater(budget, 0)
            return
        for root in maker.roots:
            values = maker.values(root)
            found = run(maker.program, root, values, 200)
            if found != ("tired",):
                self.counts["runs"] += 1
                self.assertEqual(outcome_of(run(some, root, values, 200)), outcome_of(found))

    def test_the_same_again(self):
        for seed in range(10):
            maker = ProgramMaker(seed, small=0.7)
            for name in maker.program.names:
                self.assertTrue(made(maker.program, name, budget=3) == made(maker.program, name, budget=3))


if __name__ == "__main__":
    unittest.main()
