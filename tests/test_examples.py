"""The examples of the document, as they stand there, and those of README.md."""

import doctest
import unittest
from pathlib import Path

from hungfacts import errors

SECTION_4 = '''\
>>> from hungfacts.units import Unit, is_words
>>> c = Unit(("ON",), "unit c\\nopen h\\ncall x k.k NONE\\ncall y b.g\\nend")
>>> [c.name, c.opens, c.asks, c.lines[2], is_words(("ON", "NONE"))]
['c', (('h', 0),), (('b', 'g', 0), ('k', 'k', 1)), 'call x k.k NONE', False]
>>> Unit(("ON",), "unit a\\nopen f p\\nset p ON\\nend")
raises BadUnit(line=3)
'''

SECTION_7 = '''\
>>> from hungfacts.clauses import unit_clauses
>>> from hungfacts.units import Unit
>>> some = unit_clauses(Unit(("ON",), "unit b\\nopen g\\ncall x c.h\\nend"))
>>> [some[0], some[1], some[2]]
[(('at', 'b', 3), (('called', 'b', 'g'),)), (('at', 'b', 4), (('at', 'b', 3), ('back', 'c', 'h'))), (('back', 'b', 'g'), (('gives', 'b', 'g', 'BAD'),))]
'''


def steps(text):
    """The rows behind >>> of an example, each with the row that tells its result, or None."""
    rows = text.rstrip("\n").split("\n")
    told = rows[1:] + [">>>"]
    return [(row[4:], None if behind.startswith(">>>") else behind)
            for row, behind in zip(rows, told) if row.startswith(">>> ")]


class TestExamples(unittest.TestCase):
    maxDiff = None

    def look(self, text):
        names = {}
        for row, result in steps(text):
            if result is None:
                exec(row, names)
            elif result.startswith("raises "):
                self.look_at_error(row, result[len("raises "):], names)
            else:
                self.assertEqual(repr(eval(row, names)), result)

    def look_at_error(self, row, result, names):
        expected = eval(result, vars(errors).copy())
        with self.assertRaises(expected.__class__) as caught:
            eval(row, names)
        self.assertEqual(vars(caught.exception), vars(expected))

    def test_section_4(self):
        self.assertEqual(len(steps(SECTION_4)), 4)
        self.look(SECTION_4)

    def test_section_7(self):
        self.assertEqual(len(steps(SECTION_7)), 4)
        self.look(SECTION_7)

    def test_readme(self):
        readme = Path(__file__).resolve().parent.parent / "README.md"
        self.assertEqual(doctest.testfile(str(readme), module_relative=False).failed, 0)


if __name__ == "__main__":
    unittest.main()
