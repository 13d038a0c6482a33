"""The form of texts and the trees of it: [3] and [4]."""

import unittest

from sendstead.pages import Page

ONE = ("number", 1)


def trees_of(text):
    return Page("page", text).trees


def statements_of(text):
    """The trees of statements within a method."""
    ((_, _, _, _, methods),) = trees_of("kind A under Thing method go :\n" + text + " end end")
    ((_, _, _, statements),) = methods
    return statements


def expression_of(text):
    """The tree of an expression."""
    ((word, tree),) = statements_of("do " + text)
    assert word == "do"
    return tree


def same(one, other):
    """Whether they are the same, kind for kind (1 isn't true, a list is no tuple)."""
    if type(one) is not type(other):
        return False
    if isinstance(one, tuple):
        return len(one) == len(other) and all(same(a, b) for a, b in zip(one, other))
    return one == other


class TreesCase(unittest.TestCase):
    def assert_trees(self, text, *trees):
        self.assertTrue(same(trees_of(text), trees), (trees_of(text), trees))

    def assert_statements(self, text, *trees):
        self.assertTrue(same(statements_of(text), trees), (statements_of(text), trees))

    def assert_expression(self, text, tree):
        self.assertTrue(same(expression_of(text), tree), (expression_of(text), tree))


class KindsTest(TreesCase):
    def test_a_text_of_nothing(self):
        for text in ("", " ", "\n\n  \n"):
            self.assert_trees(text)

    def test_bare_kind(self):
        self.assert_trees("kind A under Thing end", ("kind", "A", "Thing", (), ()))
        self.assert_trees("kind Thing under Thing end", ("kind", "Thing", "Thing", (), ()))

    def test_fields_of_a_kind(self):
        self.assert_trees("kind A under B field x end", ("kind", "A", "B", ("x",), ()))
        self.assert_trees("kind A under B field x field y1 field x end", ("kind", "A", "B", ("x", "y1", "x"), ()))

    def test_methods_of_a_kind(self):
        self.assert_trees(
            "kind A under B field x method go : end method size a b : end end",
            ("kind", "A", "B", ("x",), (("method", "go", (), ()), ("method", "size", ("a", "b"), ()))),
        )

    def test_bare_more(self):
        self.assert_trees("more A end", ("more", "A", ()))

    def test_methods_of_a_more(self):
        self.assert_trees(
            "more A method go a : do 1 end method go : end end",
            ("more", "A", (("method", "go", ("a",), (("do", ONE),)), ("method", "go", (), ()))),
        )

    def test_several_trees(self):
        self.assert_trees(
            "more B end kind A under B end kind A under A end more B end",
            ("more", "B", ()), ("kind", "A", "B", (), ()), ("kind", "A", "A", (), ()), ("more", "B", ()),
        )

    def test_parameters_of_a_method(self):
        for many in range(7):
            names = tuple("p%d" % at for at in range(many))
            self.assert_trees(
                "more A method go " + " ".join(names) + " : end end",
                ("more", "A", (("method", "go", names, ()),)),
            )


class StatementsTest(TreesCase):
    def test_none(self):
        self.assert_statements("")

    def test_set(self):
        self.assert_statements("a := 1", ("set", "a", ONE))

    def test_setfield(self):
        self.assert_statements("@a := 1", ("setfield", "a", ONE))

    def test_do_say_return_raise(self):
        for word in ("do", "say", "return", "raise"):
            self.assert_statements(word + " 1", (word, ONE))

    def test_if(self):
        self.assert_statements("if 1 then else end", ("if", ONE, (), ()))
        self.assert_statements("if 1 then do 1 else end", ("if", ONE, (("do", ONE),), ()))
        self.assert_statements("if 1 then else do 1 end", ("if", ONE, (), (("do", ONE),)))
        self.assert_statements(
            "if a then do 1 say a else a := 1 do 1 end",
            ("if", ("name", "a"), (("do", ONE), ("say", ("name", "a"))), (("set", "a", ONE), ("do", ONE))),
        )

    def test_while(self):
        self.assert_statements("while 1 then end", ("while", ONE, ()))
        self.assert_statements("while 1 then do 1 say 1 end", ("while", ONE, (("do", ONE), ("say", ONE))))

    def test_try(self):
        self.assert_statements("try taken a end", ("try", (), "a", ()))
        self.assert_statements("try do 1 taken a say 1 end", ("try", (("do", ONE),), "a", (("say", ONE),)))
        self.assert_statements("try taken a do 1 do 1 end", ("try", (), "a", (("do", ONE), ("do", ONE))))

    def test_several(self):
        self.assert_statements(
            "do 1 a := 1 @a := 1 return 1", ("do", ONE), ("set", "a", ONE), ("setfield", "a", ONE), ("return", ONE)
        )

    def test_within_others(self):
        self.assert_statements(
            "if 1 then while 1 then try raise 1 taken a if 1 then else return 1 end end end else try taken b end end",
            (
                "if", ONE,
                (("while", ONE, (("try", (("raise", ONE),), "a", (("if", ONE, (), (("return", ONE),)),)),)),),
                (("try", (), "b", ()),),
            ),
        )


class ExpressionsTest(TreesCase):
    def test_numbers(self):
        for number in (0, 1, -1, 10, 999999999999, -999999999999):
            self.assert_expression(str(number), ("number", number))

    def test_texts(self):
        for text in ("", "a", "_", "1", "Ab_9", "end", "x" * 40):
            self.assert_expression("'" + text, ("text", text))

    def test_truths_none_self(self):
        self.assert_expression("true", ("truth", True))
        self.assert_expression("false", ("truth", False))
        self.assert_expression("none", ("none",))
        self.assert_expression("self", ("self",))

    def test_names_and_fields(self):
        self.assert_expression("a1", ("name", "a1"))
        self.assert_expression("@a1", ("field", "a1"))
        self.assert_expression("thing", ("name", "thing"))

    def test_new(self):
        self.assert_expression("new A", ("new", "A"))
        self.assert_expression("new Thing", ("new", "Thing"))

    def test_send(self):
        for message in ("+", "-", "*", "/", "<", "=", "size", "a"):
            self.assert_expression("(1 " + message + " )", ("send", ONE, message, ()))
            self.assert_expression("(1 " + message + " 1)", ("send", ONE, message, (ONE,)))
            self.assert_expression("(1 " + message + " 1 a -1)", ("send", ONE, message, (ONE, ("name", "a"), ("number", -1))))

    def test_up(self):
        self.assert_expression("(up go)", ("up", "go", ()))
        self.assert_expression("(up go 1 self)", ("up", "go", (ONE, ("self",))))

    def test_list(self):
        self.assert_expression("[]", ("list", ()))
        self.assert_expression("[ ]", ("list", ()))
        self.assert_expression("[1 none 'a]", ("list", (ONE, ("none",), ("text", "a"))))

    def test_block(self):
        self.assert_expression("{|}", ("block", (), ()))
        self.assert_expression("{a b|}", ("block", ("a", "b"), ()))
        self.assert_expression("{|do 1 return 1}", ("block", (), (("do", ONE), ("return", ONE))))
        self.assert_expression("{a|say a}", ("block", ("a",), (("say", ("name", "a")),)))

    def test_within_others(self):
        self.assert_expression(
            "((new A go (up b [])) + {x|do (x call {|})} [(1 - ) [@f]])",
            (
                "send", ("send", ("new", "A"), "go", (("up", "b", (("list", ()),)),)), "+",
                (
                    ("block", ("x",), (("do", ("send", ("name", "x"), "call", (("block", (), ()),))),)),
                    ("list", (("send", ONE, "-", ()), ("list", (("field", "f"),)))),
                ),
            ),
        )

    def test_wherever_an_expression_stands(self):
        tree = ("send", ONE, "<", (("list", ()),))
        for before, behind, form in (
            ("a := ", "", ("set", "a", tree)), ("@a := ", "", ("setfield", "a", tree)),
            ("do ", "", ("do", tree)), ("say ", "", ("say", tree)),
            ("return ", "", ("return", tree)), ("raise ", "", ("raise", tree)),
            ("if ", " then else end", ("if", tree, (), ())), ("while ", " then end", ("while", tree, ())),
        ):
            self.assert_statements(before + "(1 < [])" + behind, form)


class PageTest(unittest.TestCase):
    def test_name_text_trees(self):
        page = Page("main", "more A end\n")
        self.assertEqual(page.name, "main")
        self.assertEqual(page.text, "more A end\n")
        self.assertEqual(page.trees, (("more", "A", ()),))

    def test_trees_are_tuples(self):
        def only_tuples(thing):
            if isinstance(thing, (tuple, list)):
                return type(thing) is tuple and all(only_tuples(part) for part in thing)
            return True
        text = "kind A under B field x method go a : try do [1 {a|say (up b 1)}] taken b if a then else end end end end"
        self.assertTrue(only_tuples(Page("main", text).trees))

    def test_str_is_the_text(self):
        for text in ("", "\n", "more  A\nend "):
            self.assertEqual(str(Page("main", text)), text)
            self.assertIs(type(str(Page("main", text))), str)

    def test_equal_by_name_and_text(self):
        page = Page("main", "more A end")
        self.assertTrue(page == Page("main", "more A end"))
        self.assertFalse(page != Page("main", "more A end"))
        self.assertFalse(page == Page("other", "more A end"))
        self.assertFalse(page == Page("main", "more A end "))
        self.assertFalse(page == Page("main", "more B end"))

    def test_equal_to_nothing_else(self):
        page = Page("main", "")
        for thing in ("", "main", ("main", ""), ("main", "", ()), None, (), 0, object()):
            self.assertFalse(page == thing)
            self.assertTrue(page != thing)

    def test_trees_of_one_page_are_not_those_of_another(self):
        one = Page("one", "more A method go : end end")
        other = Page("other", "\nmore A method go : do 1 end end")
        self.assertEqual(one.place(0), (1, 1))
        self.assertEqual(other.place(0), (2, 1))
        self.assertEqual(one.node_places(0, 0), ())


if __name__ == "__main__":
    unittest.main()
