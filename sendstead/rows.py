"""Rows: what the small machine does for a method and for each of its blocks, and the judge of such rows."""

from sendstead.trees import METHOD_CODE, body_of, found_name, many_nodes, scopes_of
from sendstead.worths import same


def rows_of(method, node):
    """The rows of a code of a method."""
    maker = RowMaker(scopes_of(method, node), node + 1)
    maker.all_statement_rows(body_of(method, node))
    maker.put(METHOD_CODE, "push", None)
    maker.put(METHOD_CODE, "return")
    return tuple(maker.rows)


def rows_stand(method, node, thing):
    """The judge: whether a thing is the rows of a code of a method."""
    return same(rows_of(method, node), thing)


class RowMaker:
    """Makes the rows of one code. number is that of the next node, visible are the names' rows from here outward."""

    def __init__(self, visible, number):
        self.rows = []
        self.visible = visible
        self.number = number

    def put(self, *row):
        """Put a row behind the others."""
        self.rows.append(row)

    def put_of_name(self, node, word, name):
        """Put a row that tells for what a name stands."""
        steps, number = found_name(self.visible, name)
        self.put(node, word, steps, number)

    def leave_open(self):
        """Put a row whose words aren't known yet; its number."""
        self.rows.append(None)
        return len(self.rows) - 1

    def fill_in(self, at, node, word):
        """Let an open row lead to behind the last row."""
        self.rows[at] = (node, word, len(self.rows))

    def next_number(self):
        """The number of the node that begins now."""
        self.number += 1
        return self.number - 1

    def all_statement_rows(self, nodes):
        """Put the rows of statements."""
        for node in nodes:
            number = self.next_number()
            self.put(number, "beat")
            self.statement_rows(number, node)

    def statement_rows(self, number, node):
        """Put the rows of a statement behind its beat."""
        sort = node[0]
        if sort == "if":
            self.if_rows(number, node)
        elif sort == "while":
            self.while_rows(number, node)
        elif sort == "try":
            self.try_rows(number, node)
        else:
            self.expression_rows(node[-1])
            if sort == "set":
                self.put_of_name(number, "setname", node[1])
            elif sort == "setfield":
                self.put(number, "setfield", node[1])
            else:
                self.put(number, "drop" if sort == "do" else sort)

    def if_rows(self, number, node):
        """Put the rows of an if."""
        _, test, first, second = node
        self.expression_rows(test)
        unless = self.leave_open()
        self.all_statement_rows(first)
        jump = self.leave_open()
        self.fill_in(unless, number, "unless")
        self.all_statement_rows(second)
        self.fill_in(jump, number, "jump")

    def while_rows(self, number, node):
        """Put the rows of a while."""
        _, test, statements = node
        beat = len(self.rows) - 1
        self.expression_rows(test)
        unless = self.leave_open()
        self.all_statement_rows(statements)
        self.put(number, "jump", beat)
        self.fill_in(unless, number, "unless")

    def try_rows(self, number, node):
        """Put the rows of a try."""
        _, first, word, second = node
        start = self.leave_open()
        self.all_statement_rows(first)
        self.put(number, "untry")
        jump = self.leave_open()
        self.fill_in(start, number, "try")
        self.put_of_name(number, "setname", word)
        self.all_statement_rows(second)
        self.fill_in(jump, number, "jump")

    def all_expression_rows(self, nodes):
        """Put the rows of expressions."""
        for node in nodes:
            self.expression_rows(node)

    def expression_rows(self, node):
        """Put the rows of an expression."""
        number = self.next_number()
        sort = node[0]
        if sort in ("number", "text", "truth"):
            self.put(number, "push", node[1])
        elif sort == "none":
            self.put(number, "push", None)
        elif sort == "self":
            self.put(number, "self")
        elif sort == "name":
            self.put_of_name(number, "name", node[1])
        elif sort in ("field", "new"):
            self.put(number, sort, node[1])
        elif sort == "block":
            self.put(number, "block", number)
            # The nodes within it are of another code.
            self.number += many_nodes(node) - 1
        elif sort == "list":
            self.all_expression_rows(node[1])
            self.put(number, "list", len(node[1]))
        else:
            self.send_rows(number, node)

    def send_rows(self, number, node):
        """Put the rows of a send or an up."""
        message, worths = node[-2:]
        if node[0] == "send":
            self.expression_rows(node[1])
        self.all_expression_rows(worths)
        self.put(number, node[0], message, len(worths))
