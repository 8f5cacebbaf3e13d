"""The examples of the document, as they stand there, and those of README.md."""

import doctest
import unittest
from pathlib import Path

from hungfacts import errors

SECTION_4 = ('''\
>>> from hungfacts.units import Unit, is_words
>>> c = Unit(("ON",), "unit c\\nopen h\\ncall x k.k NONE\\ncall y b.g\\nend")
>>> [c.name, c.opens, c.asks, c.lines[2], is_words(("ON", "NONE"))]
['c', (('h', 0),), (('b', 'g', 0), ('k', 'k', 1)), 'call x k.k NONE', False]
>>> Unit(("ON",), "unit a\\nopen f p\\nset p ON\\nend")
raises BadUnit(line=3)
''',)

SECTION_6 = ('''\
>>> from hungfacts.programs import Program
>>> from hungfacts.runs import run, steps
>>> from hungfacts.units import Unit
>>> loop = "unit a\\nopen f p\\nlet n 0\\nwhile n < 2\\nset n n + 1\\nshow p\\nend\\n"
>>> text = loop + "try\\nset n n * p\\ncatch e\\nshow e\\nend\\ngive n\\nend"
>>> program, root = Program((Unit(("ON",), text),), (("a", "f"),)), ("a", "f")
>>> [run(program, root, (3,), 9), run(program, root, ("ON",), 9), run(program, root, (3,), 3)]
[('gave', 6, (3, 3)), ('gave', 2, ('ON', 'ON', 'BAD')), ('tired',)]
>>> list(steps(program, root, (3,), 9))[2]
((('a', 5),), (('n', 0), ('p', 3)))
''',

'''\
>>> from hungfacts.programs import Program
>>> from hungfacts.units import Unit
>>> m = "unit m\\nopen main\\ncall x k.k ON\\ncall y b.g\\nend"
>>> b, c = "unit b\\nopen g\\ncall x c.h\\nend", "unit c\\nopen h\\ncall x k.k NONE\\ncall y b.g\\nend"
>>> k = "unit k\\nopen k p\\nif p is NONE\\nraise BAD\\nend\\ngive ON\\nend"
>>> program = Program(tuple([Unit(("ON",), text) for text in (m, b, c, k)]), (("m", "main"),))
>>> from hungfacts.runs import run
>>> run(program, ("m", "main"), (), 9)
('raised', 'BAD', (('k', 4), ('c', 3), ('b', 3), ('m', 4)), ())
''',)

SECTION_7 = ('''\
>>> from hungfacts.clauses import unit_clauses
>>> from hungfacts.units import Unit
>>> some = unit_clauses(Unit(("ON",), "unit b\\nopen g\\ncall x c.h\\nend"))
>>> [some[0], some[1], some[2]]
[(('at', 'b', 3), (('called', 'b', 'g'),)), (('at', 'b', 4), (('at', 'b', 3), ('back', 'c', 'h'))), (('back', 'b', 'g'), (('gives', 'b', 'g', 'BAD'),))]
''',)

SECTION_8 = ('''\
>>> from hungfacts.programs import Program
>>> from hungfacts.units import Unit
>>> m = "unit m\\nopen main\\ncall x k.k ON\\ncall y b.g\\nend"
>>> b, c = "unit b\\nopen g\\ncall x c.h\\nend", "unit c\\nopen h\\ncall x k.k NONE\\ncall y b.g\\nend"
>>> k = "unit k\\nopen k p\\nif p is NONE\\nraise BAD\\nend\\ngive ON\\nend"
>>> program = Program(tuple([Unit(("ON",), text) for text in (m, b, c, k)]), (("m", "main"),))
>>> from hungfacts.solving import facts, way
>>> known, fault = dict(facts(program)), ("raises", "k", "k", "BAD")
>>> [known[("called", "m", "main")], known[("at", "m", 3)], known[("called", "b", "g")], way(program, fault)[-1]]
[1, 2, 11, (('raises', 'k', 'k', 'BAD'), (('at', 'k', 4),))]
''',)

SECTION_9 = ('''\
>>> from hungfacts.programs import Program
>>> from hungfacts.stages import ring
>>> from hungfacts.units import Unit
>>> f = "unit f\\nopen f p\\nif p is ON\\ncall y g.g ON\\nend\\nend"
>>> g = "unit g\\nopen g p\\nif p is ON\\ncall y f.f ON\\nend\\nend"
>>> m = "unit m\\nopen main\\ncall x f.f OFF\\nend"
>>> program = Program(tuple([Unit(("ON", "OFF"), text) for text in (f, g, m)]), (("m", "main"),))
>>> some = ring(program, ("flow", "worth", "need"))
>>> [len(some), some[0], ("holds", "f", "f", "0", "ON") in some, ("no", "g", 3) in some]
[15, ('at', 'f', 4), True, False]
''',)

SECTION_10 = ('''\
>>> from hungfacts.summaries import summary
>>> from hungfacts.units import Unit
>>> found = summary(Unit(("ON",), "unit b\\nopen g\\ncall x c.h\\nend"))
>>> [len(found), found[0], found[1]]
[6, (('back', 'b', 'g'), ((('back', 'c', 'h'), ('called', 'b', 'g')),)), (('called', 'c', 'h'), ((('called', 'b', 'g'),),))]
''',)

SECTION_11 = ('''\
>>> from hungfacts.parting import alike, shows_parting
>>> from hungfacts.units import Unit
>>> one = Unit(("ON",), "unit b\\nopen g\\ncall x c.h\\nend")
>>> other = Unit(("ON",), "unit b\\nopen g\\ncall x c.h\\ngive x\\nend")
>>> main = "unit main\\nopen main\\ncall y b.g\\nend"
>>> c = "unit c\\nopen h\\ngive BAD\\nend"
>>> [alike(one, other), shows_parting(one, other, ((main, c), ("gives", "b", "g", "BAD"), 1))]
[False, True]
''',)

SECTION_12 = ('''\
>>> from hungfacts.programs import Program
>>> from hungfacts.units import Unit
>>> m = "unit m\\nopen main\\ncall x k.k ON\\ncall y b.g\\nend"
>>> b, c = "unit b\\nopen g\\ncall x c.h\\nend", "unit c\\nopen h\\ncall x k.k NONE\\ncall y b.g\\nend"
>>> k = "unit k\\nopen k p\\nif p is NONE\\nraise BAD\\nend\\ngive ON\\nend"
>>> program = Program(tuple([Unit(("ON",), text) for text in (m, b, c, k)]), (("m", "main"),))
>>> from hungfacts.making import made
>>> made(program, "k").text
'unit k\\nopen k p\\nif p is NONE\\nraise BAD\\nend\\ngive NONE\\nend'
''',

'''\
>>> from hungfacts.making import made
>>> from hungfacts.programs import Program
>>> from hungfacts.units import Unit
>>> u, v = "unit u\\nopen f q\\ncall x v.g q\\nshow x\\nend", "unit v\\nopen g p\\nshow p\\ngive p\\nend"
>>> program = Program(tuple([Unit(("ON",), text) for text in (u, v)]), (("u", "f"),))
>>> found = made(program, "u", budget=1)
>>> [found.text.split("\\n")[2:6], found.origins[2:5]]
[['let x0 q', 'show x0', 'let x x0', 'show x'], ((('u', 3),), (('v', 3), ('u', 3)), (('v', 4), ('u', 3)))]
''',)

SECTION_13 = ('''\
>>> from hungfacts.programs import Program
>>> from hungfacts.stepping import Stepper
>>> from hungfacts.units import Unit
>>> a, g = "unit a\\nopen main\\ncall x b.g\\nshow x\\nend", "open g\\nlet n 2\\nshow n\\ngive n\\nend"
>>> first, later, other = ["unit b\\n" + text for text in (g, "cell c ON\\n" + g, g.replace("2", "3"))]
>>> programs = [Program((Unit(("ON",), a), Unit(("ON",), text)), (("a", "main"),)) for text in (first, later, other)]
>>> stepper = Stepper(programs[0], ("a", "main"), ())
>>> [stepper.step(), stepper.step(), stepper.told("n")]
[(('b', 3), ('a', 3)), (('b', 4), ('a', 3)), ('is', 2)]
>>> stepper.move(programs[1])
>>> [stepper.places, stepper.done, stepper.against(programs[2])]
[(('b', 5), ('a', 3)), 2, (('lines', 'b', 5),)]
''',)

SECTION_14 = ('''\
>>> from hungfacts.programs import Program
>>> from hungfacts.units import Unit
>>> m = "unit m\\nopen main\\ncall x k.k ON\\ncall y b.g\\nend"
>>> b, c = "unit b\\nopen g\\ncall x c.h\\nend", "unit c\\nopen h\\ncall x k.k NONE\\ncall y b.g\\nend"
>>> k = "unit k\\nopen k p\\nif p is NONE\\nraise BAD\\nend\\ngive ON\\nend"
>>> program = Program(tuple([Unit(("ON",), text) for text in (m, b, c, k)]), (("m", "main"),))
>>> from hungfacts.house import House
>>> house = House(program)
>>> change = house.edit(("unit m\\nopen main\\ncall x k.k ON\\nend",))
>>> [[name for name, reason in change.anew], house.made("b").text, house.times("k"), house.edits]
[['b', 'c', 'k', 'm'], 'unit b', 2, 1]
>>> [house.undo().came == change.fell, house.times("k"), house.program == program]
[True, 1, True]
''',)

SECTION_15 = ('''\
>>> from hungfacts.programs import Program
>>> from hungfacts.units import Unit
>>> m = "unit m\\nopen main\\ncall x k.k ON\\ncall y b.g\\nend"
>>> b, c = "unit b\\nopen g\\ncall x c.h\\nend", "unit c\\nopen h\\ncall x k.k NONE\\ncall y b.g\\nend"
>>> k = "unit k\\nopen k p\\nif p is NONE\\nraise BAD\\nend\\ngive ON\\nend"
>>> program = Program(tuple([Unit(("ON",), text) for text in (m, b, c, k)]), (("m", "main"),))
>>> from hungfacts.changes import Change
>>> from hungfacts.whys import why
>>> later = Program((Unit(("ON",), "unit m\\nopen main\\ncall x k.k ON\\nend"),) + program.units[:3], program.roots)
>>> change = Change(program, later)
>>> dict(change.anew)["k"]
('answer', ('ways', 'k', 3), 'both', 'no')
>>> why(change, "k")
('facts', (('called', 'b', 'g'), ('at', 'b', 3), ('called', 'c', 'h'), ('at', 'c', 3), ('holds', 'k', 'k', '0', 'NONE'), ('yes', 'k', 3)))
''',)

SECTION_16 = ('''\
>>> from hungfacts.facttexts import read_fact, show_summary
>>> from hungfacts.units import Unit
>>> text = show_summary(Unit(("ON",), "unit b\\nopen g\\ncall x c.h\\nend"))
>>> [read_fact("at m 3"), text.split("\\n")[:2]]
[('at', 'm', 3), ['back b g <- back c h, called b g', 'called c h <- called b g']]
''',)

SECTION_17 = ('''\
>>> from hungfacts.programs import Program
>>> from hungfacts.units import Unit
>>> m = "unit m\\nopen main\\ncall x k.k ON\\ncall y b.g\\nend"
>>> b, c = "unit b\\nopen g\\ncall x c.h\\nend", "unit c\\nopen h\\ncall x k.k NONE\\ncall y b.g\\nend"
>>> k = "unit k\\nopen k p\\nif p is NONE\\nraise BAD\\nend\\ngive ON\\nend"
>>> program = Program(tuple([Unit(("ON",), text) for text in (m, b, c, k)]), (("m", "main"),))
>>> from hungfacts.desk import Desk
>>> from hungfacts.house import House
>>> from hungfacts.stored import stored
>>> desk = Desk(stored(House(program)))
>>> [desk.say("run m main"), desk.say("is called b g"), desk.say("put unit m / open main / call x k.k ON / end")]
['raised BAD k:4 c:3 b:3 m:4', 'yes 11', 'b c k m']
>>> [desk.say("why k"), desk.say("made c"), desk.say("undo")]
['called b g; at b 3; called c h; at c 3; holds k k 0 NONE; yes k 3', 'unit c', 'b c k m']
''',)


def steps(text):
    """The rows behind >>> of an example, each with the row that tells its result, or None."""
    rows = text.rstrip("\n").split("\n")
    told = rows[1:] + [">>>"]
    return [(row[4:], None if behind.startswith(">>>") else behind)
            for row, behind in zip(rows, told) if row.startswith(">>> ")]


class TestExamples(unittest.TestCase):
    maxDiff = None

    def look(self, text):
        names = {}
        for row, result in steps(text):
            if result is None:
                exec(row, names)
            elif result.startswith("raises "):
                self.look_at_error(row, result[len("raises "):], names)
            else:
                self.assertEqual(repr(eval(row, names)), result)

    def look_at_error(self, row, result, names):
        expected = eval(result, vars(errors).copy())
        with self.assertRaises(expected.__class__) as caught:
            eval(row, names)
        self.assertEqual(vars(caught.exception), vars(expected))

    def look_at_section(self, texts, many):
        """The examples of a section, so many rows behind >>> in each."""
        self.assertEqual([len(steps(text)) for text in texts], many)
        for text in texts:
            self.look(text)

    def test_sections(self):
        self.look_at_section(SECTION_4, [4])
        self.look_at_section(SECTION_6, [8, 8])
        self.look_at_section(SECTION_7, [4])
        self.look_at_section(SECTION_8, [9])
        self.look_at_section(SECTION_9, [9])
        self.look_at_section(SECTION_10, [4])
        self.look_at_section(SECTION_11, [7])
        self.look_at_section(SECTION_12, [8, 7])
        self.look_at_section(SECTION_13, [10])
        self.look_at_section(SECTION_14, [11])
        self.look_at_section(SECTION_15, [12])
        self.look_at_section(SECTION_16, [4])
        self.look_at_section(SECTION_17, [12])

    def test_readme(self):
        readme = Path(__file__).resolve().parent.parent / "README.md"
        self.assertEqual(doctest.testfile(str(readme), module_relative=False).failed, 0)


if __name__ == "__main__":
    unittest.main()
