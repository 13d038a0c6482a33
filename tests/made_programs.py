"""Made-up programs that go on for a while, and made-up deeds on steads that have them."""

from sendstead.errors import SteadError

KINDS = ("Aa", "Bb", "Cc", "Dd")
FIELDS = ("f", "g", "h", "k")
MESSAGES = {"go": 1, "to": 0, "on": 2, "at": 1}
BEATS = (0, 1, 1, 2, 3, 5, 8, 30, 200)


class Maker:
    """Makes programs. Names in reach are told by words; few of what it makes is refused or fails at once."""

    def __init__(self, chance):
        self.chance = chance
        self.left = 0
        self.fields = ()
        self.messages = ("go",)
        self.kinds = KINDS

    def pick(self, *choices):
        return self.chance.choice(choices)

    def program(self):
        many = self.chance.randrange(1, 5)
        self.kinds = KINDS[:many]
        fields, found = {}, {}
        text = []
        for at, kind in enumerate(self.kinds):
            parent = self.pick("Thing", *self.kinds[:at])
            free = [word for word in FIELDS if word not in fields.get(parent, ())]
            own = self.chance.sample(free, min(len(free), self.chance.randrange(3)))
            fields[kind] = tuple(fields.get(parent, ())) + tuple(own)
            self.fields = fields[kind]
            messages = self.chance.sample(list(MESSAGES), self.chance.randrange(1, 4))
            if at == 0 and "go" not in messages:
                messages.append("go")
            self.messages = found[kind] = (*found.get(parent, ()), *messages)
            text += ["kind %s under %s" % (kind, parent)] + ["field " + word for word in own]
            text += [self.method(message) for message in messages] + ["end"]
        return "\n".join(text)

    def more(self, book):
        """The text of a more of a book's kind."""
        self.kinds = book.kinds()
        kind = self.pick(*self.kinds)
        self.fields = book.fields(kind)
        self.messages = [message for message in MESSAGES if book.finds(kind, message) is not None] or ["go"]
        return "more %s\n%s\nend" % (kind, self.method(self.pick(*MESSAGES)))

    def method(self, message):
        self.left = 55
        parameters = ["p", "q"][:MESSAGES[message]]
        if self.chance.random() < 0.05:
            parameters = ["p", "q", "r"][:self.chance.randrange(4)]
        names = parameters + ["x", "y", "e"]
        body = self.statements(names, 4, self.chance.randrange(1, 5))
        # So that all names are there.
        return "method %s %s :\nx := 0 y := [ 1 ] e := 0\n%s\nend" % (message, " ".join(parameters), body)

    def statements(self, names, open_ones, many):
        return "\n".join(self.statement(names, open_ones) for _ in range(many))

    def statement(self, names, left):
        self.left -= 1
        sorts = ["set", "set", "set", "setfield", "do", "say", "say", "return", "raise"]
        if left > 0 and self.left > 0:
            sorts += ["if", "if", "while", "try", "try", "for"]
        sort = self.chance.choice(sorts)
        if sort in ("return", "raise") and self.chance.random() < 0.6:
            sort = "set"
        name = self.pick(*names)
        if sort == "if":
            return "if %s then\n%s\nelse\n%s\nend" % (self.truth(names, left - 1), self.inner(names, left),
                                                      self.inner(names, left))
        if sort == "while":
            return "while %s then\n%s\nend" % (self.truth(names, left - 1), self.inner(names, left))
        if sort == "for":
            word = self.pick("x", "y")
            inner = self.inner(names, left)
            return "%s := 0\nwhile ( %s < %d ) then\n%s := ( %s + 1 )\n%s\nend" % (
                word, word, self.chance.randrange(1, 6), word, word, inner)
        if sort == "try":
            return "try\n%s\ntaken %s\n%s\nend" % (self.inner(names, left), self.pick("e", name), self.inner(names, left))
        e = self.e(names, left)
        if sort == "set":
            return "%s := %s" % (name, e)
        if sort == "setfield" and self.fields:
            return "@%s := %s" % (self.pick(*self.fields), e)
        return "%s %s" % ("do" if sort == "setfield" else sort, e)

    def inner(self, names, left):
        return self.statements(names, left - 1, self.pick(0, 1, 1, 2))

    def truth(self, names, left):
        if left <= 0 or self.chance.random() < 0.1:
            return self.pick("true", "false", "false", *names)
        return self.pick("( %s < %s )" % (self.number(names, left - 1), self.number(names, left - 1)),
                         "( %s = %s )" % (self.e(names, left - 1), self.leaf(names)))

    def number(self, names, left):
        if left <= 0 or self.chance.random() < 0.7:
            return self.pick("0", "1", "2", "7", "-3", "4", "x", "x", self.pick(*names), "999999999999")
        signs = ("+", "+", "-", "*", "/", "rem")
        return "( %s %s %s )" % (self.number(names, left - 1), self.pick(*signs), self.number(names, left - 1))

    def leaf(self, names):
        worths = ["0", "1", "5", "-2", "999999999999", "true", "false", "none", "self", "'ab", "'" + "c" * 30, "new Thing",
                  "new " + self.pick(*self.kinds)]
        return self.pick(*worths, *names, *names, *["@" + word for word in self.fields], "[ ]")

    def e(self, names, left):
        self.left -= 1
        if left <= 0 or self.left <= 0 or self.chance.random() < 0.25:
            return self.leaf(names)
        sort = self.chance.choice(("send", "send", "worth", "worth", "number", "list", "block", "call", "up", "add"))
        if sort == "list":
            many = self.pick(0, 1, 2, 3, 30, 31) if self.chance.random() < 0.1 else self.chance.randrange(4)
            es = [self.leaf(names) if many > 3 else self.e(names, left - 1) for _ in range(many)]
            return "[\n%s ]" % " ".join(es)
        if sort == "block":
            return self.block(names, left)
        message, many = self.chance.choice(list(MESSAGES.items()))
        if self.chance.random() < 0.05:
            many = self.chance.randrange(4)
        es = "\n".join(self.e(names, left - 1) for _ in range(many))
        if sort in ("up", "send") and self.chance.random() < 0.8:
            message = self.pick(*self.messages)
            es = "\n".join(self.e(names, left - 1) for _ in range(MESSAGES[message]))
        if sort == "up":
            return "( up %s %s )" % (message, es)
        if sort == "send":
            receiver = self.pick("self", "self", "self", "self", "new " + self.pick(*self.kinds), self.pick(*names), self.leaf(names))
            return "( %s %s %s )" % (receiver, message, es)
        if sort == "call":
            receiver = self.pick(self.pick(*names), self.block(names, left - 1))
            return "( %s call %s )" % (receiver, self.pick("", self.e(names, left - 1)))
        if sort == "number":
            return self.number(names, left)
        if sort == "add":
            return "( %s add %s )" % (self.pick("[ ]", "y", "[ x\nnone ]"), self.e(names, left - 1))
        if self.chance.random() < 0.5:
            deed = self.pick("at 0", "at x", "pop", "size", "put x " + self.leaf(names), "put 0 y", "what", "= y")
            return "( %s %s )" % (self.pick("y", "y", "[ 1\n'a y ]", "[ y ]"), deed)
        deed = self.pick("size", "what", "pop", "not", "= " + self.leaf(names), "at 0", "at " + self.number(names, 0),
                         "put 0 " + self.leaf(names), "and true", "or " + self.leaf(names), "+ 'x", "+ " + self.leaf(names))
        return "( %s %s )" % (self.e(names, left - 1), deed)

    def block(self, names, left):
        parameters = self.pick([], ["b"], ["x"])
        body = self.statements(parameters + names, left - 1, self.chance.randrange(3))
        return "{ %s |\n%s %s }" % (" ".join(parameters), body, self.pick("return " + self.leaf(parameters + names), ""))


def made_deed(chance, stead, number):
    """A deed that a stead may take, or refuse, as ("begin", kind, message, worths) and so on."""
    worth = chance.choice((None, True, False, 0, 1, 3, "t", -7))
    kinds = ["Thing", "Zz", *stead.book.kinds(), *stead.book.kinds(), *stead.book.kinds()]
    message, many = chance.choice(list(MESSAGES.items()))
    status, _, _, _, _, frames, _ = stead.view()
    word = chance.choice(("run",) * 9 + ("begin",) * 2 + ("again", "name", "name", "forget", "gone", "field", "lost", "under",
                                                         "under", "sweep", "load", "load"))
    if status != "paused" and chance.random() < 0.7:
        word = "begin"
    if word == "begin":
        worths = tuple(chance.choice((0, 1, 2, "t", None)) for _ in range(many if chance.random() < 0.9 else 1))
        return word, chance.choice([None, *kinds]), message, worths
    if word == "run":
        marks = tuple((chance.choice(("main", "b")), chance.randrange(1, 40)) for _ in range(chance.choice((0, 0, 0, 1, 9))))
        return word, chance.choice(BEATS), marks
    if word == "again":
        return word, chance.randrange(len(frames) + 1)
    if word == "name":
        return word, chance.randrange(len(frames) + 1), chance.choice(("p", "q", "x", "y", "e", "b", "zz")), worth
    if word in ("forget", "sweep"):
        return (word,)
    kind, field = chance.choice(kinds), chance.choice((*FIELDS, "m", "n"))
    if word == "under":
        return word, kind, chance.choice(kinds)
    if word == "load":
        maker = Maker(chance)
        return word, "b" + "abcdefghij"[number // 10 % 10] + "abcdefghij"[number % 10], maker.more(stead.book)
    return {"gone": (word, kind, message), "field": (word, kind, field, worth), "lost": (word, kind, field)}[word]


def tried(act):
    """What a deed tells, or how it is refused."""
    try:
        return "done", act()
    except SteadError as refusal:
        return "refused", type(refusal)
