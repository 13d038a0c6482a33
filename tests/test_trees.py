"""Nodes and codes of methods: [4] and the interface of trees."""

import random
import unittest

from sendstead.pages import Page
from sendstead.signs import words_of
from sendstead.trees import body_of, code_within, codes_of, nodes_of, parameters_of
from tests.made_up import laid_out, made_methods, made_words, method_of, words_of_all, words_of_tree

A, B, C, D = (("name", word) for word in "abcd")
ONE = ("number", 1)
TWO = ("number", 2)

# What can be open around statements: what stands ahead, behind, and how much of it is open.
NESTS = (
    ("if a then say b", "say c else say d end", 1), ("if a then say b else say c", "say d end", 1),
    ("while (a + b) then say c", "say d end", 2), ("try say a", "say b taken a say c end", 1),
    ("try taken a", "say b end", 1),
    ("do {|", "}", 1), ("x := {a b| @x := a", "return b}", 1), ("do (1 call {|", "} {|} 1)", 2),
    ("say [2 [] {a|", "} 2]", 2),
    ("return (up go {|", "})", 2), ("raise ({|", "} call)", 2), ("if {|", "} then else end", 2),
    ("while {|", "say 1} then end", 2),
)


def around_words(words):
    """For each word the word's number of the innermost { within which it stands, or None."""
    around, stack = [], []
    for at, word in enumerate(words):
        if word == "}":
            stack.pop()
        around.append(stack[-1] if stack else None)
        if word == "{":
            stack.append(at)
    return around


def matching(words, at):
    """The number of the } of the { with this number."""
    many = 0
    for end in range(at, len(words)):
        many += (words[end] == "{") - (words[end] == "}")
        if many == 0:
            return end


class NodesTest(unittest.TestCase):
    def assert_nodes(self, statements, *nodes):
        told = nodes_of(method_of(statements))
        self.assertEqual(told, nodes)
        self.assertIs(type(told), tuple)

    def test_without_statements(self):
        self.assert_nodes("")
        self.assertEqual(nodes_of(method_of("", "a b c")), ())

    def test_plain_statements(self):
        for word in ("do", "say", "return", "raise"):
            self.assert_nodes(word + " a", (word, A), A)

    def test_set_and_setfield(self):
        self.assert_nodes("a := b", ("set", "a", B), B)
        self.assert_nodes("@a := b", ("setfield", "a", B), B)

    def test_if(self):
        self.assert_nodes("if a then else end", ("if", A, (), ()), A)
        self.assert_nodes(
            "if a then say b say 1 else say c say d end",
            ("if", A, (("say", B), ("say", ONE)), (("say", C), ("say", D))),
            A, ("say", B), B, ("say", ONE), ONE, ("say", C), C, ("say", D), D,
        )

    def test_while(self):
        self.assert_nodes("while a then end", ("while", A, ()), A)
        self.assert_nodes(
            "while a then say b say c end", ("while", A, (("say", B), ("say", C))), A, ("say", B), B, ("say", C), C
        )

    def test_try(self):
        self.assert_nodes("try taken a end", ("try", (), "a", ()))
        self.assert_nodes(
            "try say a say b taken b say c say d end",
            ("try", (("say", A), ("say", B)), "b", (("say", C), ("say", D))),
            ("say", A), A, ("say", B), B, ("say", C), C, ("say", D), D,
        )

    def test_expressions_without_others(self):
        for text, node in (
            ("-7", ("number", -7)), ("'hi", ("text", "hi")), ("true", ("truth", True)), ("false", ("truth", False)),
            ("none", ("none",)), ("self", ("self",)), ("a", A), ("@a", ("field", "a")), ("new A", ("new", "A")),
            ("(up go)", ("up", "go", ())), ("[]", ("list", ())), ("{|}", ("block", (), ())),
            ("{a b|}", ("block", ("a", "b"), ())),
        ):
            self.assert_nodes("do " + text, ("do", node), node)

    def test_send(self):
        send = ("send", A, "+", ())
        self.assert_nodes("do (a +)", ("do", send), send, A)
        send = ("send", A, "go", (B, ONE, C))
        self.assert_nodes("do (a go b 1 c)", ("do", send), send, A, B, ONE, C)

    def test_up_and_list(self):
        self.assert_nodes("do (up go a b)", ("do", ("up", "go", (A, B))), ("up", "go", (A, B)), A, B)
        self.assert_nodes("do [a b a]", ("do", ("list", (A, B, A))), ("list", (A, B, A)), A, B, A)

    def test_block(self):
        block = ("block", ("c",), (("say", A), ("say", B)))
        self.assert_nodes("do {c| say a say b}", ("do", block), block, ("say", A), A, ("say", B), B)

    def test_several_statements(self):
        self.assert_nodes("do a say b do a", ("do", A), A, ("say", B), B, ("do", A), A)

    def test_expressions_within_others(self):
        first, inner, last = ("send", A, "-", (B,)), ("block", (), (("return", C),)), ("up", "on", (("list", (D,)),))
        send = ("send", first, "call", (inner, last))
        self.assert_nodes(
            "x := ((a - b) call {| return c} (up on [d])) do 1",
            ("set", "x", send), send, first, A, B, inner, ("return", C), C, last, ("list", (D,)), D, ("do", ONE), ONE,
        )

    def test_statements_within_others(self):
        attempt = ("try", (("while", A, (("raise", B),)),), "w", (("return", C),))
        choice = ("if", ("list", (D,)), (attempt, ("do", ONE)), (("if", A, (), (("do", TWO),)),))
        self.assert_nodes(
            "if [d] then try while a then raise b end taken w return c end do 1 else if a then else do 2 end end do d",
            choice, ("list", (D,)), D, attempt, attempt[1][0], A, ("raise", B), B, ("return", C), C, ("do", ONE), ONE,
            choice[3][0], A, ("do", TWO), TWO, ("do", D), D,
        )

    def test_same_node_at_several_places(self):
        inner = ("list", ())
        outer = ("list", (inner, inner))
        self.assert_nodes("do [[] []]", ("do", outer), outer, inner, inner)



class NodesByWordsTest(unittest.TestCase):
    """Each node's words stand in the text where the page tells the place of the node to be."""

    def check(self, text):
        page = Page("page", text)
        places = [(row, column) for _, row, column in words_of(text)]
        words = [word for word, _, _ in words_of(text)]
        for k, tree in enumerate(page.trees):
            for m, method in enumerate(tree[-1]):
                nodes = nodes_of(method)
                self.assertEqual(len(nodes), len(page.node_places(k, m)))
                for node, place in zip(nodes, page.node_places(k, m)):
                    node_words = words_of_tree(node)
                    start = places.index(place)
                    self.assertEqual(words[start:start + len(node_words)], node_words)

    def test_twelve_deep(self):
        for before, behind, many_open in NESTS:
            deep = 12 // many_open
            nest = (before + "\n") * deep + "do none " + (behind + "\n") * deep
            self.check("more A method go :\n" + nest + "end end")
        for before, behind in (("[", " 2]"), ("(", " + a 1)"), ("(1 + ", ")"), ("(up go 1 ", " a)")):
            self.check("more A method go : do\n" + before * 12 + "\nself\n" + (behind * 6 + "\n") * 2 + "end end")

    def test_nests_within_nests(self):
        chance = random.Random(4)
        for _ in range(100):
            left, rows, behind = 12, [], []
            while left > 1:
                nest = chance.choice(NESTS)
                left -= nest[2]
                rows.append(nest[0])
                behind.append(nest[1])
            self.check("\n".join(["more A method go :"] + rows + ["say self"] + behind[::-1] + ["end end"]))

    def test_made_up_texts(self):
        chance = random.Random(5)
        for _ in range(300):
            words, _ = made_words(chance)
            self.check(laid_out(chance, words)[0])

    def test_long_method(self):
        self.check("more A method go :\n" + "do [1 1 1 1 1 1 1 1 1 1]\n" * 290 + "end end")


class CodesTest(unittest.TestCase):
    def assert_codes(self, statements, *codes):
        told = codes_of(method_of(statements))
        self.assertEqual(told, codes)
        self.assertIs(type(told), tuple)

    def test_without_blocks(self):
        self.assert_codes("", -1)
        self.assert_codes("do [1 (a + b)] if a then else end", -1)

    def test_blocks(self):
        self.assert_codes("do {|}", -1, 1)
        self.assert_codes("do {a|say a} do 1 return {|}", -1, 1, 7)

    def test_blocks_within_blocks(self):
        self.assert_codes("do {| do {| do {| say 1}} do {|}}", -1, 1, 3, 5, 9)

    def test_blocks_within_expressions(self):
        self.assert_codes("do ({|} call {|} a {| say 1})", -1, 2, 3, 5)
        self.assert_codes("do [a {|} [{|}]]", -1, 3, 5)
        self.assert_codes("do (up go 1 {|} {|})", -1, 3, 4)

    def test_blocks_within_statements(self):
        self.assert_codes("if {|} then do {|} else say 1 say {|} end", -1, 1, 3, 7)
        self.assert_codes("while {|} then @a := {|} end", -1, 1, 3)
        self.assert_codes("try a := {|} taken b raise {|} end", -1, 2, 4)

    def test_parameters_and_bodies(self):
        method = method_of("do {a| say {b c| @x := 1} do 2} return {|}", "p q")
        inner = ("block", ("b", "c"), (("setfield", "x", ONE),))
        outer = ("block", ("a",), (("say", inner), ("do", TWO)))
        self.assertEqual(method[3], (("do", outer), ("return", ("block", (), ()))))
        self.assertEqual(codes_of(method), (-1, 1, 3, 9))
        self.assertEqual([parameters_of(method, code) for code in (-1, 1, 3, 9)], [("p", "q"), ("a",), ("b", "c"), ()])
        self.assertEqual(
            [body_of(method, code) for code in (-1, 1, 3, 9)],
            [method[3], (("say", inner), ("do", TWO)), (("setfield", "x", ONE),), ()],
        )

    def test_parameters_and_body_of_bare_methods(self):
        self.assertEqual(parameters_of(method_of(""), -1), ())
        self.assertEqual(body_of(method_of(""), -1), ())
        self.assertEqual(parameters_of(method_of("", "a b c d"), -1), ("a", "b", "c", "d"))

    def test_code_within(self):
        method = method_of("do 1 do {a| say {b| say b} if a then else say [{|}] end} do 2 return {|}")
        codes = [-1, -1, -1, -1, 3, 3, 5, 5, 3, 3, 3, 3, 3, -1, -1, -1, -1]
        self.assertEqual([code_within(method, node) for node in range(len(nodes_of(method)))], codes)

    def test_blocks_stand_in_the_code_around(self):
        method = method_of("do {| do {| do {|}}}")
        self.assertEqual(codes_of(method), (-1, 1, 3, 5))
        self.assertEqual([code_within(method, node) for node in range(6)], [-1, -1, 1, 1, 3, 3])

    def test_behind_a_block_its_code_is_over(self):
        method = method_of("do ({| do ({|} + 1) say 2} call 3) if {| say 4} then say 5 else end say 6")
        nodes = nodes_of(method)
        within = {nodes[node][1]: code_within(method, node) for node in range(len(nodes)) if nodes[node][0] == "number"}
        self.assertEqual(within, {1: 2, 2: 2, 3: -1, 4: 11, 5: -1, 6: -1})

    def test_names_of_the_arguments(self):
        method = method_of("do {a|}", "b")
        self.assertEqual(len(nodes_of(method=method)), 2)
        self.assertEqual(codes_of(method=method), (-1, 1))
        self.assertEqual(parameters_of(method=method, node=1), ("a",))
        self.assertEqual(body_of(method=method, node=1), ())
        self.assertEqual(code_within(method=method, node=1), -1)


class CodesByWordsTest(unittest.TestCase):
    """The codes, judged by where { and } stand in the words of a text."""

    def check(self, method, words, starts):
        around = around_words(words)
        codes = {start: node for node, start in enumerate(starts) if words[start] == "{"}
        self.assertEqual(codes_of(method), (-1,) + tuple(sorted(codes.values())))
        for node, start in enumerate(starts):
            self.assertEqual(code_within(method, node), codes.get(around[start], -1))
        for start, node in codes.items():
            bar = words.index("|", start)
            self.assertEqual(list(parameters_of(method, node)), words[start + 1:bar])
            self.assertEqual(words_of_all(body_of(method, node)), words[bar + 1:matching(words, start)])
        self.assertEqual(parameters_of(method, -1), method[2])
        self.assertEqual(body_of(method, -1), method[3])
        return len(codes)

    def test_made_up_methods(self):
        chance = random.Random(6)
        many_blocks = sum(self.check(*made) for made in made_methods(chance, 400))
        self.assertGreater(many_blocks, 300)


if __name__ == "__main__":
    unittest.main()
