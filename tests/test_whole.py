"""What holds over the whole program: arguments by position and by name, equal calls, what is handed in,
houses of all kinds beside new ones, and programs whose units or names stand otherwise."""

import copy
import random
import unittest

from hungfacts.changes import Change
from hungfacts.clauses import clauses, unit_clauses
from hungfacts.desk import Desk
from hungfacts.errors import HungError, NothingToRedo, NothingToUndo
from hungfacts.facttexts import read_fact, read_summary, show_fact, show_summary
from hungfacts.house import House
from hungfacts.maderuns import run_made
from hungfacts.making import Made, made
from hungfacts.parting import alike, parting, shows_parting
from hungfacts.programs import Program
from hungfacts.questions import answer
from hungfacts.runs import met, run, steps
from hungfacts.solving import closed, facts, shows_closed, shows_way, way
from hungfacts.stages import ring, shows_ring, staged
from hungfacts.stepping import Stepper
from hungfacts.stored import read_house, stored
from hungfacts.summaries import follows, inputs, joined, outputs, summary
from hungfacts.units import Unit, is_words
from hungfacts.whys import shows_why, why
from tests.edits import edited, edited_text
from tests.helper import program, unit
from tests.kinds import KINDS
from tests.makers import ProgramMaker
from tests.test_house import more_told, told
from tests.test_house_runs import stand
from tests.test_solving import FOUR, LESS, MAIN
from tests.test_stepping import properties

ROOT = ("m", "main")
FACT = ("called", "b", "g")
ORDER = ("flow", "worth", "need")
TEXT = "unit m\nopen main\ncall x k.k ON\nend"


def listed_steps(program, root, values, most):
    return list(steps(program=program, root=root, values=values, most=most))


def plain(value):
    """A returned value in a form in which all that it tells is compared."""
    if isinstance(value, Made):
        return (value.text, value.origins, value.asked)
    if isinstance(value, Stepper):
        return properties(value)
    if isinstance(value, House):
        return more_told(value)
    if isinstance(value, Change):
        return (value.elder, value.newer, value.came, value.fell, value.anew, value.kept, value.gone)
    if isinstance(value, Unit):
        return (value.words, value.text, value.name, value.lines, value.opens, value.asks)
    if isinstance(value, Program):
        return (value.words, value.units, value.names, value.roots)
    return value


def calls():
    """(function or class, what is given by name and may be given by position, what is given by name alone)."""
    four, less, b = program(FOUR, MAIN), program(LESS, MAIN), unit(FOUR[1])
    change, house = Change(four, less), House(four)
    other = unit(FOUR[1].replace("end", "give x / end"))
    return [
        (is_words, {"value": ("ON",)}, {}), (Unit, {"words": ("ON",), "text": TEXT}, {}),
        (Program, {"units": four.units, "roots": MAIN}, {}),
        (run, {"program": four, "root": ROOT, "values": (), "most": 9}, {}),
        (listed_steps, {"program": four, "root": ROOT, "values": (), "most": 9}, {}),
        (met, {"program": four, "root": ROOT, "values": (), "most": 9}, {}),
        (unit_clauses, {"unit": b}, {}), (clauses, {"program": four}, {}), (facts, {"program": four}, {}),
        (way, {"program": four, "fact": FACT}, {}), (closed, {"program": less, "fact": FACT}, {}),
        (shows_way, {"program": four, "fact": FACT, "value": way(four, FACT)}, {}),
        (shows_closed, {"program": less, "fact": FACT, "value": closed(less, FACT)}, {}),
        (staged, {"program": four, "order": ORDER}, {}), (ring, {"program": four, "order": ORDER}, {}),
        (shows_ring, {"program": four, "value": ()}, {}), (inputs, {"unit": b}, {}), (outputs, {"unit": b}, {}),
        (follows, {"unit": b, "some": ()}, {}), (summary, {"unit": b}, {}), (joined, {"units": four.units, "roots": MAIN}, {}),
        (alike, {"one": b, "other": other}, {}), (parting, {"one": b, "other": other}, {}),
        (shows_parting, {"one": b, "other": other, "value": parting(b, other)}, {}),
        (answer, {"program": four, "question": ("called", "b", "g")}, {"budget": 1}),
        (made, {"program": four, "name": "k"}, {"budget": 1}),
        (run_made, {"program": four, "root": ROOT, "values": (), "most": 9}, {"budget": 1}),
        (Stepper, {"program": four, "root": ROOT, "values": ()}, {"budget": 1}),
        (House, {"program": four}, {"budget": 1}), (Change, {"elder": four, "newer": less}, {"budget": 1}),
        (why, {"change": change, "name": "k"}, {}), (shows_why, {"change": change, "name": "k", "value": why(change, "k")}, {}),
        (show_fact, {"fact": FACT}, {}), (read_fact, {"text": "called b g"}, {}), (show_summary, {"unit": b}, {}),
        (read_summary, {"text": show_summary(b)}, {}), (stored, {"house": house}, {}), (read_house, {"text": stored(house)}, {}),
    ]


class TestCalls(unittest.TestCase):
    maxDiff = None

    def test_by_position_and_by_name(self):
        for look, given, named in calls():
            with self.subTest(look):
                found = plain(look(**given, **named))
                self.assertEqual(plain(look(*given.values(), **named)), found)
                if len(given) > 1:
                    first, *rest = given
                    self.assertEqual(plain(look(given[first], **{each: given[each] for each in rest}, **named)), found)
                if named:
                    look(**given)
                    self.assertRaises(TypeError, look, *given.values(), *named.values())
                self.assertRaises(TypeError, look, **given, **named, nothing=1)
                if given:
                    self.assertRaises(TypeError, look, *list(given.values())[1:], **named)

    def test_equal_calls(self):
        for look, given, named in calls():
            found = plain(look(**given, **named))
            for _ in range(3):
                self.assertEqual(plain(look(**given, **named)), found)

    def test_new_equal_arguments(self):
        for (look, given, named), (_, others, _) in zip(calls(), calls()):
            self.assertEqual(plain(look(**given, **named)), plain(look(**others, **named)))

    def test_sequences_are_tuples(self):
        for look, given, named in calls():
            if look not in (House, read_house):
                self.no_lists(plain(look(**given, **named)), look is listed_steps)

    def no_lists(self, value, outermost=False):
        self.assertNotIsInstance(value, (set, dict) if outermost else (list, set, dict))
        if isinstance(value, (tuple, list)):
            for each in value:
                self.no_lists(each)

    def test_methods_by_name(self):
        house = House(program(FOUR, MAIN))
        self.assertEqual(house.made(name="k"), house.made("k"))
        self.assertEqual([house.times(name="k"), house.run(root=ROOT, values=(), most=9)], [1, house.run(ROOT, (), 9)])
        self.assertEqual(house.start(root=ROOT, values=()), 0)
        stepper = house.stepper(number=0)
        self.assertTrue(stepper.until(unit="k", line=3))
        self.assertEqual(stepper.told(name="p"), stepper.told("p"))
        self.assertEqual(stepper.against(program=house.program), ())
        stepper.move(program=house.program)
        self.assertEqual(house.tried(look=lambda each: each.edit(texts=(), drops=(), roots=None).kept, keep=True), ("b", "c", "k", "m"))
        self.assertEqual(house.program.unit(name="b").name, "b")
        self.assertEqual(Desk(text=stored(house=house)).say(line="times b"), "1")

    def test_what_is_handed_in_stays(self):
        wrong = [value for value in KINDS if isinstance(value, (list, dict, tuple))]
        kept = copy.deepcopy([value for value in wrong if not self.has_unit(value)])
        four, b = program(FOUR, MAIN), unit(FOUR[1])
        house = House(four)
        stepper = house.stepper(house.start(ROOT, ()))
        before = (more_told(house), properties(stepper))
        for value in wrong:
            for look in (lambda: Unit(value, value), lambda: Program(value, value), lambda: Program(four.units, value), lambda: way(four, value),
                         lambda: shows_way(four, value, value), lambda: closed(four, value), lambda: shows_closed(four, FACT, value),
                         lambda: staged(four, value), lambda: shows_ring(four, value), lambda: follows(b, value), lambda: joined(value, value),
                         lambda: shows_parting(b, b, value), lambda: answer(four, value), lambda: made(four, value),
                         lambda: run_made(four, value, value, value), lambda: Stepper(four, ROOT, value), lambda: stepper.told(value),
                         lambda: stepper.until(value, value), lambda: house.made(value), lambda: house.edit(value), lambda: house.edit((), drops=value),
                         lambda: house.edit((), roots=value), lambda: house.start(ROOT, value), lambda: house.stepper(value),
                         lambda: why(Change(four, four), value), lambda: show_fact(value), lambda: read_fact(value), lambda: read_summary(value),
                         lambda: read_house(value)):
                try:
                    with house.trial():
                        look()
                except HungError:
                    pass
        self.assertEqual([value for value in wrong if not self.has_unit(value)], kept)
        self.assertEqual(more_told(house), before[0])

    def has_unit(self, value):
        if isinstance(value, dict):
            return any(map(self.has_unit, value.values()))
        return isinstance(value, (Unit, Program)) or isinstance(value, (tuple, list)) and any(map(self.has_unit, value))


class TestGuarantees(unittest.TestCase):
    """(a) to (d) of one program, made up, beside one another; (e) and (g) of houses and desks below."""

    def test_facts_ways_and_closed_sets(self):
        for seed in range(12):
            maker = ProgramMaker(seed, lines=(3, 20), small=0.5)
            some = maker.program
            known = dict(facts(some))
            for root in some.roots:
                self.assertLessEqual(set(met(some, root, maker.values(root), 60)), set(known))
            for head in {head for head, _ in clauses(some)}:
                shown, without = way(some, head), closed(some, head)
                self.assertEqual([shown is None, without is None], [head not in known, head in known])
                self.assertTrue(shows_way(some, head, shown) if head in known else shows_closed(some, head, without))
                self.assertFalse(shows_closed(some, head, tuple(sorted(known))) if head in known else shows_way(some, head, ()))
                self.assertEqual(read_fact(show_fact(head)), head)

    def test_crossing_facts(self):
        for seed in range(10):
            some = ProgramMaker(seed, lines=(3, 14), words=("ON",)).program
            known = dict(facts(some))
            border = {fact for each in some.units for fact in inputs(each) + outputs(each)}
            self.assertEqual(set(joined(some.units, some.roots)), border & set(known))


class TestRows(unittest.TestCase):
    """Rows of edits, undos, redos, trials, runs and desks; behind each, all that is told is what a new house tells."""

    def look(self, house):
        fresh = House(program([each.text for each in house.program.units][::-1], house.program.roots, house.program.words),
                      budget=house.budget)
        self.assertTrue(house == fresh)
        self.assertEqual(told(house), told(fresh))
        self.assertEqual(stored(house), stored(fresh))
        for root in house.program.roots:
            values = ("BAD",) * dict(house.program.unit(root[0]).opens)[root[1]]
            self.assertEqual(house.run(root, values, 50), fresh.run(root, values, 50))
            one, other = Stepper(house.program, root, values, budget=house.budget), Stepper(fresh.program, root, values, budget=house.budget)
            for _ in range(8):
                self.assertEqual(properties(one), properties(other))
                if one.outcome is None:
                    self.assertEqual(one.step(), other.step())

    def move_on(self, house, luck):
        """Do anything with a house."""
        kind = luck.randrange(9)
        if kind < 3:
            newer = edited(house.program, luck)
            put = tuple([each.text for each in newer.units if each not in house.program.units or luck.random() < 0.3])
            house.edit(put, drops=tuple([name for name in house.program.names if name not in newer.names]), roots=newer.roots)
        elif kind < 5:
            try:
                luck.choice((house.undo, house.redo))()
            except (NothingToUndo, NothingToRedo):
                pass
        elif kind == 5:
            root = luck.choice(house.program.roots)
            house.start(root, (3,) * dict(house.program.unit(root[0]).opens)[root[1]])
        elif kind == 6:
            for number in range(len(stand(house))):
                stepper = house.stepper(number)
                if stepper.outcome is None:
                    stepper.step()
        else:
            before = (more_told(house), stand(house), stored(house))
            keep = luck.random() < 0.5
            house.tried(lambda each: [self.move_on(each, luck) for _ in range(luck.randrange(4))], keep=keep)
            if not keep:
                self.assertEqual((more_told(house), stand(house), stored(house)), before)

    def test_made_up_rows(self):
        for seed in range(25):
            luck = random.Random(seed)
            house = House(ProgramMaker(seed, lines=(3, 20), small=0.5).program, budget=luck.choice((0, 1, 99)))
            for _ in range(10):
                self.move_on(house, luck)
                self.look(house)

    def test_desks(self):
        for seed in range(15):
            luck = random.Random(seed)
            desk = Desk(stored(House(ProgramMaker(seed, lines=(3, 20), small=0.5).program, budget=luck.choice((0, 1, 99)))))
            for _ in range(12):
                name = luck.choice(desk.house.program.names)
                text = edited_text(desk.house.program.unit(name).text, luck).replace("\n", " / ")
                try:
                    desk.say(luck.choice(("undo", "redo", f"put {text}", f"put {text}", f"drop {name}")))
                except HungError:
                    pass
                self.look(desk.house)
                self.look(Desk(stored(desk.house)).house)


class TestOtherwise(unittest.TestCase):
    def turned(self, some, luck):
        """The same program, its units handed in otherwise."""
        units = list(some.units)
        luck.shuffle(units)
        return Program(tuple(units), some.roots)

    def test_units_handed_in_otherwise(self):
        for seed in range(15):
            luck = random.Random(seed)
            maker = ProgramMaker(seed, lines=(3, 20), small=0.5)
            one, other = maker.program, self.turned(maker.program, luck)
            self.assertEqual(plain(one), plain(other))
            for look in (clauses, facts, lambda some: [staged(some, order) for order in (ORDER, ORDER[::-1])],
                         lambda some: told(House(some, budget=2)), lambda some: stored(House(some, budget=2)),
                         lambda some: joined(some.units, some.roots) if len(some.words) < 3 else None):
                self.assertEqual(look(one), look(other))

    NAMES = {"x": "w", "y": "v", "z": "u9", "e": "d1", "s": "t", "p": "kk", "q": "j0"}

    def called_otherwise(self, text):
        """A text with the names of functions otherwise; units are called ua, ub .., in the same sequence."""
        rows = []
        for row in text.split("\n"):
            head, *words = row.split(" ")
            if head == "unit":
                words = ["u" + words[0]]
            rows.append(" ".join([head] + [("u" + word) if "." in word else self.NAMES.get(word, word) for word in words]))
        return "\n".join(rows)

    def fact_otherwise(self, fact):
        parts = [fact[0], "u" + fact[1], *fact[2:]]
        if fact[0] in ("holds", "needs"):
            parts[3] = self.NAMES.get(parts[3], parts[3])
        return tuple(parts)

    def question_otherwise(self, question):
        parts = [question[0], "u" + question[1], *question[2:]]
        if question[0] in ("needed", "only"):
            parts[3] = self.NAMES.get(parts[3], parts[3])
        return tuple(parts)

    def answer_otherwise(self, question, told):
        if question[0] in ("body", "words"):
            head, *words = told.split(" ")
            return " ".join([head] + [("u" + word) if "." in word else self.NAMES.get(word, word) for word in words])
        return told

    def test_names_called_otherwise(self):
        for seed in range(30):
            maker = ProgramMaker(seed, lines=(3, 25), small=0.5)
            one = maker.program
            other = Program(tuple([Unit(one.words, self.called_otherwise(text)) for text in maker.texts]),
                            tuple([("u" + home, name) for home, name in one.roots]))
            self.assertEqual(sorted([(self.fact_otherwise(fact), rank) for fact, rank in facts(one)]), list(facts(other)))
            for budget in (0, 1, 99):
                for name in one.names:
                    before, now = made(one, name, budget=budget), made(other, "u" + name, budget=budget)
                    self.assertEqual(self.called_otherwise(before.text), now.text)
                    self.assertEqual([tuple([("u" + home, line) for home, line in origin]) for origin in before.origins], list(now.origins))
                    self.assertEqual([(self.question_otherwise(each), self.answer_otherwise(each, word)) for each, word in before.asked],
                                     list(now.asked))
            for root in one.roots:
                values = maker.values(root)
                before, now = [Stepper(some, each, values, budget=1) for some, each in ((one, root), (other, ("u" + root[0], root[1])))]
                for _ in range(15):
                    self.assertEqual([now.shown, now.done, now.outcome is None], [before.shown, before.done, before.outcome is None])
                    if now.outcome is None:
                        self.assertEqual(now.places, tuple([("u" + home, line) for home, line in before.places]))
                        now.step()
                        before.step()


if __name__ == "__main__":
    unittest.main()
