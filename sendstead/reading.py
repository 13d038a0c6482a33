"""Reading: from the words of a text to its trees."""

from sendstead.errors import Fault
from sendstead.signs import end_place, is_free, is_kind_name, is_number, scanned

MOST_OPEN = 12
MESSAGE_MARKS = ("+", "-", "*", "/", "<", "=")
PLAIN_STATEMENTS = ("do", "say", "return", "raise")


def reader_of(page, text):
    """A reader that stands ahead of the text's first word."""
    words, wrong = scanned(text)
    if wrong is None:
        return Reader(page, words, end_place(text), "end")
    return Reader(page, words, wrong, "sign")


def is_message(word):
    """Whether it is a message that can be sent."""
    return is_free(word) or word in MESSAGE_MARKS


def is_free_field(word):
    """Whether it is a field, and its name no kept word."""
    return word.startswith("@") and is_free(word[1:])


def leaf(word):
    """The tree of an expression that is this word alone, or None if there is none."""
    if is_number(word):
        return ("number", int(word))
    if word.startswith("'"):
        return ("text", word[1:])
    if word in ("true", "false"):
        return ("truth", word == "true")
    if word in ("none", "self"):
        return (word,)
    if is_free(word):
        return ("name", word)
    if is_free_field(word):
        return ("field", word[1:])
    return None


class Reader:
    """Goes over the words of a page once, and refuses the first one that doesn't fit.

    The words go up to a place where the text ends, or has a word that is none; stop and
    stop_why tell it. starts has for each tree that was read (first word, methods), and a
    method is told there as (first word, first words of its nodes): all by words' numbers.
    """

    def __init__(self, page, words, stop, stop_why):
        self.page = page
        self.words = words
        self.stop = stop
        self.stop_why = stop_why
        self.at = 0
        self.many_open = 0
        self.starts = []
        self.method_starts = []
        self.node_starts = []

    def word(self):
        """The word that is next; a Fault if there is none."""
        if self.at == len(self.words):
            self.refuse_stop()
        return self.words[self.at][0]

    def refuse_stop(self):
        """Refuse the page where its words end."""
        row, column = self.stop
        raise Fault(self.page, row, column, self.stop_why)

    def refuse(self, why):
        """Refuse the page at the word that is next."""
        _, row, column = self.words[self.at]
        raise Fault(self.page, row, column, why)

    def skip(self, word):
        """Go behind the next word, which must be this one."""
        if self.word() != word:
            self.refuse("word")
        self.at += 1

    def take(self, fits):
        """The next word, for which fits must hold; go behind it."""
        word = self.word()
        if not fits(word):
            self.refuse("word")
        self.at += 1
        return word

    def enter(self):
        """Go behind the next word, with which something is open from now on."""
        if self.many_open == MOST_OPEN:
            self.refuse("deep")
        self.many_open += 1
        self.at += 1

    def leave(self):
        """What was opened last has been read up to its end."""
        self.many_open -= 1

    def page_trees(self):
        """The trees of all words."""
        trees = []
        while self.at < len(self.words):
            trees.append(self.tree())
        if self.stop_why == "sign":
            self.refuse_stop()
        return tuple(trees)

    def tree(self):
        """The tree of a kind or a more."""
        start = self.at
        self.method_starts = []
        tree = self.kind() if self.word() == "kind" else self.more()
        self.starts.append((start, tuple(self.method_starts)))
        return tree

    def kind(self):
        """The tree of a kind."""
        self.skip("kind")
        name = self.take(is_kind_name)
        self.skip("under")
        parent = self.take(is_kind_name)
        fields = []
        while self.word() == "field":
            self.at += 1
            fields.append(self.take(is_free))
        return ("kind", name, parent, tuple(fields), self.methods())

    def more(self):
        """The tree of a more."""
        self.skip("more")
        name = self.take(is_kind_name)
        return ("more", name, self.methods())

    def methods(self):
        """The trees of methods, up to the end of their kind or more and behind it."""
        methods = []
        while self.word() == "method":
            methods.append(self.method())
        self.skip("end")
        return tuple(methods)

    def method(self):
        """The tree of a method."""
        start = self.at
        self.node_starts = []
        self.skip("method")
        message = self.take(is_free)
        parameters = self.free_words(":")
        statements = self.statements("end")
        self.method_starts.append((start, tuple(self.node_starts)))
        return ("method", message, parameters, statements)

    def free_words(self, last):
        """Free words up to the last word, which isn't told, and behind it."""
        words = []
        while self.word() != last:
            words.append(self.take(is_free))
        self.at += 1
        return tuple(words)

    def statements(self, last):
        """Statements up to the last word, and behind it."""
        statements = []
        while self.word() != last:
            statements.append(self.statement())
        self.at += 1
        return tuple(statements)

    def statement(self):
        """The tree of a statement."""
        word = self.word()
        self.node_starts.append(self.at)
        if word in PLAIN_STATEMENTS:
            self.at += 1
            return (word, self.expression())
        if word == "if":
            return self.choice()
        if word == "while":
            return self.loop()
        if word == "try":
            return self.attempt()
        if word.startswith("@"):
            return ("setfield", self.take(is_free_field)[1:], self.new_worth())
        return ("set", self.take(is_free), self.new_worth())

    def new_worth(self):
        """The expression behind := ."""
        self.skip(":=")
        return self.expression()

    def choice(self):
        """The tree of an if."""
        self.enter()
        test = self.expression()
        self.skip("then")
        first = self.statements("else")
        second = self.statements("end")
        self.leave()
        return ("if", test, first, second)

    def loop(self):
        """The tree of a while."""
        self.enter()
        test = self.expression()
        self.skip("then")
        statements = self.statements("end")
        self.leave()
        return ("while", test, statements)

    def attempt(self):
        """The tree of a try."""
        self.enter()
        first = self.statements("taken")
        name = self.take(is_free)
        second = self.statements("end")
        self.leave()
        return ("try", first, name, second)

    def expressions(self, last):
        """Expressions up to the last word, and behind it."""
        expressions = []
        while self.word() != last:
            expressions.append(self.expression())
        self.at += 1
        return tuple(expressions)

    def expression(self):
        """The tree of an expression."""
        word = self.word()
        self.node_starts.append(self.at)
        if word == "(":
            return self.sending()
        if word == "[":
            return self.listing()
        if word == "{":
            return self.block()
        if word == "new":
            self.at += 1
            return ("new", self.take(is_kind_name))
        tree = leaf(word)
        if tree is None:
            self.refuse("word")
        self.at += 1
        return tree

    def sending(self):
        """The tree of a send or an up."""
        self.enter()
        if self.word() == "up":
            self.at += 1
            tree = ("up", self.take(is_free), self.expressions(")"))
        else:
            receiver = self.expression()
            tree = ("send", receiver, self.take(is_message), self.expressions(")"))
        self.leave()
        return tree

    def listing(self):
        """The tree of a list."""
        self.enter()
        expressions = self.expressions("]")
        self.leave()
        return ("list", expressions)

    def block(self):
        """The tree of a block."""
        self.enter()
        parameters = self.free_words("|")
        statements = self.statements("}")
        self.leave()
        return ("block", parameters, statements)
