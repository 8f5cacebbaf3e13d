"""Writing the lines of a made unit."""

from hungfacts.forms import called_function, is_name


class Asking:
    """Asks questions; log has each question with its answer, in the order of asking."""

    def __init__(self, answers):
        self.answers = answers
        self.log = {}

    def ask(self, question):
        if question not in self.log:
            self.log[question] = self.answers.tell(question)
        return self.log[question]

    def is_so(self, question):
        return self.ask(question) == "yes"


class View:
    """A function whose statements are gone through.

    tail: what stands in origins behind the line of the statement. renamed: the names that stand in
    the place of its own ones, where it is put in; None where it is made itself.
    """

    def __init__(self, home, name, params, tail, renamed):
        self.home = home
        self.name = name
        self.params = params
        self.tail = tail
        self.renamed = renamed

    def about(self, kind, name):
        """The question of this kind about a name of the function."""
        spot = str(self.params.index(name)) if name in self.params else name
        return (kind, self.home, self.name, spot)

    def origin(self, line):
        return ((self.home, line),) + self.tail


class Writer:
    """Writes a made unit; rows are (text, origin) of its lines.

    used: the words that no fresh name may be, as keys. renamed: for the line of each call whose function
    was put in, the names that stand in the place of those of this function.
    """

    def __init__(self, asking):
        self.asking = asking
        self.rows = []
        self.used = {}
        self.renamed = {}

    def begin(self):
        """Begin with a function, none of whose words is used yet."""
        self.used = {}

    def use(self, words):
        for word in words:
            self.used[word] = True

    def write(self, words, origin):
        self.use(words)
        self.rows.append((" ".join(words), origin))

    def fresh(self):
        """A name that stands nowhere in the function yet."""
        at = 0
        while "x" + str(at) in self.used:
            at += 1
        return "x" + str(at)

    def declared(self, view, name):
        """What stands in the place of a name that a statement declares."""
        if view.renamed is None:
            return name
        if name not in view.renamed:
            view.renamed[name] = self.fresh()
        return view.renamed[name]

    def operand(self, view, text):
        """What stands in the place of an operand."""
        if not is_name(text):
            return text
        only = self.asking.ask(view.about("only", text))
        if only != "-":
            return only
        return text if view.renamed is None else view.renamed[text]

    def write_let(self, view, words, line):
        needed = self.asking.is_so(view.about("needed", words[1]))
        if not needed and (len(words) == 3 or not self.asking.is_so(("fails", view.home, line))):
            return
        term = [self.operand(view, words[2])]
        if len(words) == 5:
            term += [words[3], self.operand(view, words[4])]
        # A set that may fail, whose value matters to nobody, must not change what its name has.
        kept = needed or words[0] == "let"
        head = [words[0], self.declared(view, words[1])] if kept else ["let", self.fresh()]
        self.write(head + term, view.origin(line))

    def write_call(self, view, words, line):
        called = called_function(view.home, words[2])
        operands = []
        for place, operand in enumerate(words[3:]):
            needed = self.asking.is_so(("needed", *called, str(place)))
            operands.append(self.operand(view, operand) if needed else "NONE")
        self.write(["call", self.declared(view, words[1]), words[2]] + operands, view.origin(line))

    def write_show(self, view, words, line):
        """A show or a raise."""
        self.write([words[0], self.operand(view, words[1])], view.origin(line))
