"""Forms of trees: whether whatever is handed in is the tree of a method that a text can have."""

from sendstead.bounds import MOST_NAMES, MOST_NODES, MOST_PARAMETERS
from sendstead.cells import is_kind_word, is_text_of
from sendstead.reading import MOST_OPEN, is_message
from sendstead.signs import BIG, MOST_COLUMNS, MOST_ROWS, is_free, is_text
from sendstead.trees import METHOD_CODE, is_parameter, names_among
from sendstead.worths import is_number_within, is_row, is_whole

STATEMENTS = ("set", "setfield", "do", "say", "return", "raise", "if", "while", "try")


def is_free_word(thing):
    """Whether it is a text that is a free word."""
    return isinstance(thing, str) and is_free(thing)


def is_message_word(thing):
    """Whether it is a text that is a message."""
    return isinstance(thing, str) and is_message(thing)


def is_text_worth(thing):
    """Whether it is a text that is a worth."""
    return isinstance(thing, str) and is_text(thing)


def is_number_worth(thing):
    """Whether it is a number that is a worth."""
    return is_whole(thing) and -BIG < thing < BIG


def is_truth(thing):
    """Whether it is a truth."""
    return isinstance(thing, bool)


# For each sort of e that has just a word or a worth, what that must be.
LEAVES = {
    "number": is_number_worth, "text": is_text_worth, "truth": is_truth, "name": is_free_word, "field": is_free_word,
}


class Outline:
    """What is to be known of the tree of a method, gathered in one go over it, in which its form is looked at, too.

    stands: whether it is the tree of a method that a book can have, whatever its fields and kinds.
    What follows is told of such trees only.
    nodes: in order, each with the code in which it stands directly.
    waits: of each node how many worths wait in the frame when it begins.
    parameters_by_code: of each code, by its node.
    names: those of the method.
    """

    def __init__(self, method):
        self.nodes = []
        self.waits = []
        self.parameters_by_code = {}
        self.names = ()
        self.code_now = METHOD_CODE
        self.stands = self.fits_method(method) and self.do_names_fit()

    def fits_method(self, thing):
        """Whether it has the form of a method's tree."""
        if not is_row(thing, 4) or not is_text_of(thing[0], "method"):
            return False
        _, message, parameters, statements = thing
        return is_free_word(message) and self.fits_body(parameters, statements, MOST_OPEN)

    def fits_body(self, parameters, statements, left):
        """Whether these are parameters and statements of the code that is looked at now."""
        if not are_words(parameters) or len(parameters) > MOST_PARAMETERS or len(set(parameters)) < len(parameters):
            return False
        self.parameters_by_code[self.code_now] = parameters
        return self.are_statements(statements, left)

    def do_names_fit(self):
        """Whether there are not too many names, and each name of an e stands for something."""
        self.names = names_among(self.parameters_by_code[METHOD_CODE], self.nodes)
        named = [(node[1], code) for node, code in self.nodes if node[0] == "name" and node[1] not in self.names]
        return len(self.names) <= MOST_NAMES and all([is_parameter(self.nodes, code, word) for word, code in named])

    def begins(self, thing, waits):
        """Whether it is a tuple with a text ahead; if so it's the next node, and not too many are there."""
        if not isinstance(thing, tuple) or len(thing) == 0 or not isinstance(thing[0], str):
            return False
        self.nodes.append((thing, self.code_now))
        self.waits.append(waits)
        return len(self.nodes) <= MOST_NODES

    def are_statements(self, things, left):
        """Whether it is a tuple of statements, within each of which so many more may be open."""
        if not isinstance(things, tuple):
            return False
        for thing in things:
            if not self.is_statement(thing, left):
                return False
        return True

    def is_statement(self, thing, left):
        """Whether it is a statement."""
        if not self.begins(thing, 0):
            return False
        sort = thing[0]
        if sort in ("set", "setfield"):
            return len(thing) == 3 and is_free_word(thing[1]) and self.is_e(thing[2], left, 0)
        if sort in ("do", "say", "return", "raise"):
            return len(thing) == 2 and self.is_e(thing[1], left, 0)
        return left > 0 and self.is_open_statement(thing, left - 1)

    def is_open_statement(self, thing, left):
        """Whether it is an if, a while or a try, within which so many more may be open."""
        sort = thing[0]
        if sort == "while":
            return len(thing) == 3 and self.is_e(thing[1], left, 0) and self.are_statements(thing[2], left)
        if len(thing) != 4:
            return False
        _, first, second, third = thing
        if sort == "if":
            ahead = self.is_e(first, left, 0) and self.are_statements(second, left)
        else:
            ahead = sort == "try" and self.are_statements(first, left) and is_free_word(second)
        return ahead and self.are_statements(third, left)

    def are_es(self, things, left, waits):
        """Whether it is a tuple of es, with so many worths waiting ahead of the first."""
        if not isinstance(things, tuple):
            return False
        for at, thing in enumerate(things):
            if not self.is_e(thing, left, waits + at):
                return False
        return True

    def is_e(self, thing, left, waits):
        """Whether it is an e, within which so many more may be open."""
        if not self.begins(thing, waits):
            return False
        sort = thing[0]
        if sort in LEAVES:
            fits = LEAVES[sort]
            return len(thing) == 2 and fits(thing[1])
        if sort in ("none", "self"):
            return len(thing) == 1
        if sort == "new":
            return len(thing) == 2 and is_kind_word(thing[1])
        return left > 0 and self.is_open_e(thing, left - 1, waits)

    def is_open_e(self, thing, left, waits):
        """Whether it is a send, an up, a list or a block, within which so many more may be open."""
        sort = thing[0]
        if sort == "send":
            if len(thing) != 4 or not is_message_word(thing[2]):
                return False
            return self.is_e(thing[1], left, waits) and self.are_es(thing[3], left, waits + 1)
        if sort == "list":
            return len(thing) == 2 and self.are_es(thing[1], left, waits)
        if len(thing) != 3:
            return False
        if sort == "up":
            return is_free_word(thing[1]) and self.are_es(thing[2], left, waits)
        return sort == "block" and self.is_block(thing, left)

    def is_block(self, thing, left):
        """Whether a block's parameters and statements are as they must be; its nodes are of a code of its own."""
        _, parameters, statements = thing
        around = self.code_now
        self.code_now = len(self.nodes) - 1
        fits = self.fits_body(parameters, statements, left)
        self.code_now = around
        return fits

    def has_code(self, thing):
        """Whether it is the number of a code."""
        return is_number_within(thing, METHOD_CODE, MOST_NODES) and thing in self.parameters_by_code

    def code_around(self, node):
        """The code in which a node stands directly."""
        _, code = self.nodes[node]
        return code

    def has_node(self, thing):
        """Whether it is the number of a node."""
        return is_number_within(thing, 0, len(self.nodes) - 1)

    def many_names(self, code):
        """How many worths stand in the surroundings of a code."""
        return len(self.names) if code == METHOD_CODE else len(self.parameters_by_code[code])


def are_words(thing):
    """Whether a thing is a tuple of free words."""
    return isinstance(thing, tuple) and all([is_free_word(word) for word in thing])


def are_places(thing, many):
    """Whether a thing is a tuple of so many places of a text, rising."""
    if not is_row(thing, many) or not all([is_row(place, 2) for place in thing]):
        return False
    rows = [row for row, _ in thing]
    columns = [column for _, column in thing]
    if not are_within(rows, MOST_ROWS) or not are_within(columns, MOST_COLUMNS):
        return False
    return all([one < other for one, other in zip(thing, thing[1:])])


def are_within(things, most):
    """Whether all things are numbers from 1 to the most."""
    return all([is_whole(thing) for thing in things]) and min(things, default=1) >= 1 and max(things, default=1) <= most
