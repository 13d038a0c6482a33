"""Looking a page through: the first fault for which a book refuses it, beyond those of its text."""

from sendstead.bounds import (
    MOST_FIELDS, MOST_KINDS, MOST_MESSAGES, MOST_NAMES, MOST_NODES, MOST_OWN, MOST_PARAMETERS,
)
from sendstead.errors import Fault
from sendstead.trees import METHOD_CODE, found_name, nodes_of, scopes_of


class Looker:
    """Goes over the words of a page once, by its trees, and refuses the first one with a fault.

    taken are the names that no further kind may have: Thing and those of the kinds that came
    ahead. known are the kinds as if all of the page were in the book. heads has for each kind
    the messages that came ahead. at is the number of the next word.
    """

    def __init__(self, page, taken, known, heads):
        self.page = page
        self.taken = taken
        self.known = known
        self.heads = heads
        self.allowed = (*taken, *known.kinds())
        self.words = page.words
        self.at = 0
        self.known_fields = ()

    def refuse_if(self, wrong, why):
        """Refuse the page at the next word where something is wrong."""
        if wrong:
            _, row, column = self.words[self.at]
            raise Fault(self.page.name, row, column, why)

    def look_through(self):
        """Look at all of the page."""
        for tree in self.page.trees:
            self.at += 1
            if tree[0] == "kind":
                self.kind_head(tree)
            else:
                self.refuse_if(not self.known.has(tree[1]), "kind")
                self.at += 1
            self.known_fields = self.known.fields(tree[1])
            self.methods_of(tree[1], tree[-1])
            self.at += 1

    def kind_head(self, tree):
        """Look at a kind's name, parent and fields."""
        _, kind, parent, fields, _ = tree
        self.refuse_if(kind in self.taken, "twice")
        # Thing is taken, too, but is none of the book's kinds.
        self.refuse_if(len(self.taken) - 1 == MOST_KINDS, "many")
        self.taken = (*self.taken, kind)
        self.at += 2
        self.refuse_if(parent not in self.allowed, "kind")
        self.refuse_if(self.known.is_endless(kind), "ring")
        self.at += 1
        above = self.known.fields(parent)
        for number, word in enumerate(fields):
            self.at += 1
            self.refuse_if(word in fields[:number], "twice")
            self.refuse_if(word in above, "clash")
            self.refuse_if(number >= MOST_OWN or len(above) + number >= MOST_FIELDS, "many")
            self.at += 1

    def methods_of(self, kind, methods):
        """Look at the methods of a kind or a more."""
        ahead = []
        for method in methods:
            _, message, parameters, statements = method
            self.refuse_if(len(nodes_of(method)) > MOST_NODES, "many")
            self.at += 1
            self.refuse_if(message in ahead, "twice")
            heads = self.heads[kind]
            self.refuse_if(message not in heads and len(heads) == MOST_MESSAGES, "many")
            ahead.append(message)
            if message not in heads:
                heads.append(message)
            self.at += 1
            self.look_parameters(parameters)
            self.statements_within(statements, scopes_of(method, METHOD_CODE))

    def look_parameters(self, words):
        """Look at the parameters of a method or block, and go behind the word that ends them."""
        for number, word in enumerate(words):
            self.refuse_if(word in words[:number], "twice")
            self.refuse_if(number >= MOST_PARAMETERS, "many")
            self.at += 1
        self.at += 1

    def statements_within(self, statements, scopes):
        """Look at statements, and go behind the word that ends them."""
        for node in statements:
            self.look_statement(node, scopes)
        self.at += 1

    def look_statement(self, node, scopes):
        """Look at a statement."""
        sort = node[0]
        if sort == "set":
            self.look_set_name(node[1], scopes)
        elif sort == "setfield":
            self.look_field(node[1])
        self.at += 1
        if sort == "try":
            _, first, word, second = node
            self.statements_within(first, scopes)
            self.look_set_name(word, scopes)
            self.statements_within(second, scopes)
            return
        self.look_expression(node[2] if sort in ("set", "setfield") else node[1], scopes)
        if sort in ("if", "while"):
            self.at += 1
            for statements in node[2:]:
                self.statements_within(statements, scopes)

    def look_set_name(self, word, scopes):
        """Look at a name that is set or taken."""
        # No block gets this far with so many parameters, so this is the number of a name of the method.
        _, number = found_name(scopes, word)
        self.refuse_if(number >= MOST_NAMES, "many")
        self.at += 1

    def look_field(self, word):
        """Look at a field."""
        self.refuse_if(word not in self.known_fields, "field")
        self.at += 1

    def look_expression(self, node, scopes):
        """Look at an expression."""
        sort = node[0]
        if sort == "field":
            self.look_field(node[1])
            return
        self.refuse_if(sort == "name" and found_name(scopes, node[1]) is None, "name")
        self.at += 1
        if sort == "new":
            self.refuse_if(node[1] not in self.allowed, "kind")
            self.at += 1
        elif sort == "send":
            self.look_expression(node[1], scopes)
            self.at += 1
            self.expressions_within(node[3], scopes)
        elif sort == "up":
            self.at += 2
            self.expressions_within(node[2], scopes)
        elif sort == "list":
            self.expressions_within(node[1], scopes)
        elif sort == "block":
            _, parameters, statements = node
            self.look_parameters(parameters)
            self.statements_within(statements, (parameters, *scopes))

    def expressions_within(self, expressions, scopes):
        """Look at expressions, and go behind the word that ends them."""
        for node in expressions:
            self.look_expression(node, scopes)
        self.at += 1
