"""The machine's rows: [21], [22], and their judge: [32]."""

import random
import unittest

from sendstead.rows import rows_of, rows_stand
from sendstead.trees import body_of, code_within, codes_of, names_of, nodes_of, parameters_of
from tests.made_up import made_methods, method_of

END = ((-1, "push", None), (-1, "return"))


class RowsCase(unittest.TestCase):
    def assert_rows(self, statements, rows, code=-1, parameters="a"):
        method = method_of(statements, parameters)
        self.assertEqual(rows_of(method, code), tuple(rows) + END)
        self.assertIs(rows_stand(method, code, tuple(rows) + END), True)


class ExpressionRowsTest(RowsCase):
    def assert_e(self, e, rows):
        """Rows of an e that is returned: its node is 1."""
        self.assert_rows("return " + e, [(0, "beat")] + rows + [(0, "return")])

    def test_leaves(self):
        for e, worth in (("7", 7), ("-3", -3), ("'hi", "hi"), ("'", ""), ("true", True), ("false", False), ("none", None)):
            self.assert_e(e, [(1, "push", worth)])
            rows = rows_of(method_of("return " + e), -1)
            self.assertIs(type(rows[1][2]), type(worth))
        self.assert_e("self", [(1, "self")])
        self.assert_e("a", [(1, "name", 0, 0)])
        self.assert_e("@top", [(1, "field", "top")])
        self.assert_e("new Box", [(1, "new", "Box")])
        self.assert_e("{ | }", [(1, "block", 1)])

    def test_sends(self):
        self.assert_e("( a go )", [(2, "name", 0, 0), (1, "send", "go", 0)])
        self.assert_e("( a + 1 )", [(2, "name", 0, 0), (3, "push", 1), (1, "send", "+", 1)])
        self.assert_e("( up go )", [(1, "up", "go", 0)])
        self.assert_e("( up go a 2 )", [(2, "name", 0, 0), (3, "push", 2), (1, "up", "go", 2)])
        self.assert_e("( ( 1 - 2 ) go ( up x 3 ) self )",
                      [(3, "push", 1), (4, "push", 2), (2, "send", "-", 1), (6, "push", 3), (5, "up", "x", 1), (7, "self"),
                       (1, "send", "go", 2)])

    def test_lists(self):
        self.assert_e("[ ]", [(1, "list", 0)])
        self.assert_e("[ 1 [ a ] { x | say x do [ x ] } @f ]",
                      [(2, "push", 1), (4, "name", 0, 0), (3, "list", 1), (5, "block", 5), (11, "field", "f"),
                       (1, "list", 4)])


class StatementRowsTest(RowsCase):
    def test_nothing(self):
        self.assert_rows("", [])

    def test_plain_statements(self):
        self.assert_rows("x := 1 @f := a do x say a return none raise 'no", [
            (0, "beat"), (1, "push", 1), (0, "setname", 0, 1),
            (2, "beat"), (3, "name", 0, 0), (2, "setfield", "f"),
            (4, "beat"), (5, "name", 0, 1), (4, "drop"),
            (6, "beat"), (7, "name", 0, 0), (6, "say"),
            (8, "beat"), (9, "push", None), (8, "return"),
            (10, "beat"), (11, "push", "no"), (10, "raise"),
        ])

    def test_if(self):
        self.assert_rows("if a then say 1 else say 2 say 3 end say 4", [
            (0, "beat"), (1, "name", 0, 0), (0, "unless", 7),
            (2, "beat"), (3, "push", 1), (2, "say"), (0, "jump", 13),
            (4, "beat"), (5, "push", 2), (4, "say"), (6, "beat"), (7, "push", 3), (6, "say"),
            (8, "beat"), (9, "push", 4), (8, "say"),
        ])
        self.assert_rows("if a then else end", [(0, "beat"), (1, "name", 0, 0), (0, "unless", 4), (0, "jump", 4)])
        self.assert_rows("if a then do a else end", [
            (0, "beat"), (1, "name", 0, 0), (0, "unless", 7), (2, "beat"), (3, "name", 0, 0), (2, "drop"), (0, "jump", 7)])

    def test_while(self):
        self.assert_rows("say 1 while ( a < 2 ) then say a end", [
            (0, "beat"), (1, "push", 1), (0, "say"),
            (2, "beat"), (4, "name", 0, 0), (5, "push", 2), (3, "send", "<", 1), (2, "unless", 12),
            (6, "beat"), (7, "name", 0, 0), (6, "say"), (2, "jump", 3),
        ])
        self.assert_rows("while a then end", [(0, "beat"), (1, "name", 0, 0), (0, "unless", 4), (0, "jump", 0)])

    def test_try(self):
        self.assert_rows("try say 1 taken e say e end say 2", [
            (0, "beat"), (0, "try", 7), (1, "beat"), (2, "push", 1), (1, "say"), (0, "untry"), (0, "jump", 11),
            (0, "setname", 0, 1), (3, "beat"), (4, "name", 0, 1), (3, "say"),
            (5, "beat"), (6, "push", 2), (5, "say"),
        ])
        self.assert_rows("try taken a end", [
            (0, "beat"), (0, "try", 4), (0, "untry"), (0, "jump", 5), (0, "setname", 0, 0)])
        self.assert_rows("try taken e end", [
            (0, "beat"), (0, "try", 4), (0, "untry"), (0, "jump", 5), (0, "setname", 0, 1)])

    def test_one_within_another(self):
        self.assert_rows("while true then if a then try return 1 taken e end else while a then end end end", [
            (0, "beat"), (1, "push", True), (0, "unless", 20),
            (2, "beat"), (3, "name", 0, 0), (2, "unless", 15),
            (4, "beat"), (4, "try", 13), (5, "beat"), (6, "push", 1), (5, "return"), (4, "untry"), (4, "jump", 14),
            (4, "setname", 0, 1),
            (2, "jump", 19),
            (7, "beat"), (8, "name", 0, 0), (7, "unless", 19), (7, "jump", 15),
            (0, "jump", 0),
        ])


class NamesRowsTest(RowsCase):
    def test_steps_outward(self):
        text = "n := { b | n := b do { b c | a := c do { | say [ a b c n ] } } }"
        self.assert_rows(text, [(0, "beat"), (1, "block", 1), (0, "setname", 0, 1)])
        self.assert_rows(text, [(2, "beat"), (3, "name", 0, 0), (2, "setname", 1, 1),
                                (4, "beat"), (5, "block", 5), (4, "drop")], 1)
        self.assert_rows(text, [(6, "beat"), (7, "name", 0, 1), (6, "setname", 2, 0),
                                (8, "beat"), (9, "block", 9), (8, "drop")], 5)
        self.assert_rows(text, [(10, "beat"), (12, "name", 3, 0), (13, "name", 1, 0), (14, "name", 1, 1),
                                (15, "name", 3, 1), (11, "list", 4), (10, "say")], 9)

    def test_a_blocks_parameter_is_ahead_of_a_name_of_the_method(self):
        text = "do { a | a := a do { | try taken a end } } a := a"
        self.assert_rows(text, [(2, "beat"), (3, "name", 0, 0), (2, "setname", 0, 0),
                                (4, "beat"), (5, "block", 5), (4, "drop")], 1)
        self.assert_rows(text, [(6, "beat"), (6, "try", 4), (6, "untry"), (6, "jump", 5), (6, "setname", 1, 0)], 5)
        self.assert_rows(text, [(0, "beat"), (1, "block", 1), (0, "drop"), (7, "beat"), (8, "name", 0, 0),
                                (7, "setname", 0, 0)])

    def test_taken_names_are_numbered_at_the_try(self):
        self.assert_rows("try x := 1 taken e y := x end", [
            (0, "beat"), (0, "try", 7), (1, "beat"), (2, "push", 1), (1, "setname", 0, 2), (0, "untry"), (0, "jump", 11),
            (0, "setname", 0, 1), (3, "beat"), (4, "name", 0, 2), (3, "setname", 0, 3)])


class MadeUpRowsTest(unittest.TestCase):
    def test_by_what_the_document_says(self):
        """Each node has the rows of its sort, jumps lead where they should, names' numbers lead back to their words."""
        chance = random.Random(11)
        seen = 0
        for method, _, _ in made_methods(chance, 150):
            if all_names_stand(method):
                for code in codes_of(method):
                    seen += 1
                    self.check(method, code)
        self.assertGreater(seen, 60)

    def check(self, method, code):
        nodes, rows = nodes_of(method), rows_of(method, code)
        self.assertEqual(rows[-2:], END)
        mine = [at for at in range(len(nodes)) if code_within(method, at) == code]
        many = {}
        for row in rows[:-2]:
            many.setdefault(row[0], []).append(row[1])
            if row[1] in ("unless", "jump", "try"):
                self.assertTrue(0 <= row[2] <= len(rows) - 2)
            if row[1] in ("name", "setname"):
                node = nodes[row[0]]
                word = node[2] if node[0] == "try" else node[1]
                self.assertEqual(word_at(method, code, *row[2:]), word)
        self.assertEqual(sorted(many), mine)
        told = {"number": ["push"], "text": ["push"], "truth": ["push"], "none": ["push"],
                "set": ["beat", "setname"], "setfield": ["beat", "setfield"], "do": ["beat", "drop"],
                "if": ["beat", "unless", "jump"], "while": ["beat", "unless", "jump"],
                "try": ["beat", "try", "untry", "jump", "setname"]}
        for at, words in many.items():
            sort = nodes[at][0]
            plain = ["beat", sort] if sort in ("say", "return", "raise") else [sort]
            self.assertEqual(words, told.get(sort, plain))
        statements = [row[0] for row in rows if row[1] == "beat"]
        self.assertEqual(statements[:1], mine[:1])
        self.assertEqual(len(statements), len(set(statements)))
        self.assertEqual(len(body_of(method, code)) > 0, len(statements) > 0)


def surroundings_words(method, code):
    """The names of a code and of those around it."""
    if code == -1:
        return [names_of(method)]
    return [parameters_of(method, code)] + surroundings_words(method, code_within(method, code))


def word_at(method, code, steps, number):
    """The word at a number of the surroundings some steps outward; it must be the first of that word."""
    rows = surroundings_words(method, code)
    word = rows[steps][number]
    assert all(word not in row for row in rows[:steps]) and rows[steps].index(word) == number
    return word


def all_names_stand(method):
    nodes = nodes_of(method)
    return all(any(node[1] in row for row in surroundings_words(method, code_within(method, at)))
               for at, node in enumerate(nodes) if node[0] == "name")


class JudgeTest(unittest.TestCase):
    METHOD = method_of("x := 1 do { y | if true then say y else end } try return [ 'a none ] taken e end", "a")

    def test_let_by(self):
        for code in codes_of(self.METHOD):
            self.assertIs(rows_stand(self.METHOD, code, rows_of(self.METHOD, code)), True)

    def test_one_thing_changed(self):
        for code in codes_of(self.METHOD):
            rows = rows_of(self.METHOD, code)
            for at, row in enumerate(rows):
                for part, worth in enumerate(row):
                    for other in (0, 1, 2, 6, 99, -1, "beat", "push", "", None, True, False, (), [], {}, 1.0, b"a"):
                        if other is not worth and not (type(other) is type(worth) and other == worth):
                            bent = row[:part] + (other,) + row[part + 1:]
                            self.assert_refused(code, rows[:at] + (bent,) + rows[at + 1:])
                for bent in (row[:-1], row + (0,), list(row), None, row[0], (row,), ()):
                    self.assert_refused(code, rows[:at] + (bent,) + rows[at + 1:])
                self.assert_refused(code, rows[:at] + rows[at + 1:])
                self.assert_refused(code, rows[:at] + (row,) + rows[at:])

    def test_whatever_else(self):
        for code in codes_of(self.METHOD):
            rows = rows_of(self.METHOD, code)
            for thing in (list(rows), (), None, True, 0, "", "rows", {}, set(), rows + ((),), (rows,), b"", object(),
                          1.5, dict(enumerate(rows)), rows[::-1], rows * 2, [list(row) for row in rows]):
                self.assert_refused(code, thing)
            for other in codes_of(self.METHOD):
                if other != code:
                    self.assert_refused(code, rows_of(self.METHOD, other))
            deep = ()
            for _ in range(60):
                deep = (deep,)
            self.assert_refused(code, deep)

    def assert_refused(self, code, thing):
        self.assertIs(rows_stand(self.METHOD, code, thing), False, thing)


if __name__ == "__main__":
    unittest.main()
