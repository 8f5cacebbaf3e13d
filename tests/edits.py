"""Makes up edits of programs that leave most functions as they are."""

from hungfacts.errors import HungError
from hungfacts.programs import Program
from hungfacts.units import Unit


def blocks(text):
    """The first lines of a unit, then the lines of each of its functions."""
    found = [[]]
    for row in text.split("\n"):
        if row.split(" ")[0] in ("open", "local"):
            found.append([])
        found[-1].append(row)
    return found


def edited_text(text, luck):
    """The text with some functions exchanged, some lines put in, left out or otherwise, some cells more or less."""
    head, *functions = blocks(text)
    for _ in range(luck.randrange(1, 4)):
        kind = luck.randrange(8)
        rows = luck.choice(functions)
        at = luck.randrange(1, max(2, len(rows)))
        if kind == 0:
            luck.shuffle(functions)
        elif kind == 1:
            head.append(f"cell z{luck.randrange(3)} {luck.choice(['ON', 'NONE', 'BAD'])}")
        elif kind == 2 and len(head) > 1:
            del head[luck.randrange(1, len(head))]
        elif kind == 3:
            functions.append([f"{luck.choice(['open', 'local'])} z{luck.randrange(4)}", "show ON", "end"])
        elif kind == 4:
            rows.insert(at, luck.choice(["show ON", "show 1", "do", "let zz 1"]))
        elif kind == 5 and len(rows) > 1:
            del rows[at]
        elif kind == 6 and len(rows) > 1:
            rows[at] = " ".join(luck.choice([word, word, word, "ON", "NONE", "1", "x"]) for word in rows[at].split(" "))
        elif len(functions) > 1:
            functions.remove(rows)
    return "\n".join(sum(functions, head))


def edited(program, luck, many=2):
    """Another program with some of the units edited, perhaps with a unit more and with other roots."""
    while True:
        texts = {unit.name: unit.text for unit in program.units}
        for name in luck.sample(sorted(texts), min(len(texts), luck.randrange(many + 1))):
            texts[name] = edited_text(texts[name], luck)
        if luck.random() < 0.2:
            calls = [f"call x{k} {unit.name}.{name}" + " ON" * many for k, (unit, name, many) in enumerate(
                [(unit, *each) for unit in program.units for each in unit.opens])]
            texts["aa"] = "\n".join(["unit aa", "open f"] + calls + ["end"])
        try:
            units = tuple([Unit(program.words, text) for text in texts.values()])
            every = [(unit.name, name) for unit in units for name, _ in unit.opens]
            roots = [root for root in program.roots if root in every and luck.random() < 0.97]
            roots += [root for root in every if luck.random() < 0.2]
            return Program(units, tuple(sorted(set(roots))))
        except HungError:
            continue


def nudged(program, luck):
    """Another program with one operand of one line otherwise."""
    while True:
        unit = luck.choice(program.units)
        rows = [row.split(" ") for row in unit.lines]
        row = luck.choice(rows)
        at = luck.randrange(len(row))
        if row[0] in ("unit", "open", "local") or at == 0:
            continue
        row[at] = luck.choice(program.words + ("NONE", "BAD", "1", "0"))
        text = "\n".join([" ".join(row) for row in rows])
        try:
            if text != unit.text:
                return Program(tuple([each for each in program.units if each != unit]) + (Unit(unit.words, text),), program.roots)
        except HungError:
            continue
