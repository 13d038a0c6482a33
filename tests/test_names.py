"""The names of methods: [8]."""

import random
import unittest

from sendstead.trees import names_of
from tests.made_up import made_methods, method_of


def names_by_words(words, start):
    """The names of the method that begins at the word with this number, judged by words alone."""
    colon = words.index(":", start)
    names = words[start + 2:colon]
    set_at = []
    ends, blocks = ["method"], []
    at = colon + 1
    while ends:
        word = words[at]
        if word in ("if", "while", "{", "(", "["):
            ends.append(word)
        if word == "try":
            # Which w it takes is told behind; it counts where the try begins.
            ends.append(len(set_at))
            set_at.append((None, list(blocks)))
        if word == "{":
            bar = words.index("|", at)
            blocks.append(words[at + 1:bar])
            at = bar
        if word == "taken":
            set_at[ends[-1]] = (words[at + 1], set_at[ends[-1]][1])
        if word == ":=" and not words[at - 1].startswith("@"):
            set_at.append((words[at - 1], list(blocks)))
        if word in ("end", "}", ")", "]"):
            ends.pop()
        if word == "}":
            blocks.pop()
        at += 1
    for word, around in set_at:
        if word not in names and not any(word in parameters for parameters in around):
            names.append(word)
    return tuple(names)


class NamesTest(unittest.TestCase):
    def assert_names(self, statements, names, parameters=""):
        told = names_of(method_of(statements, parameters))
        self.assertEqual(told, tuple(names.split()))
        self.assertIs(type(told), tuple)

    def test_without_names(self):
        self.assert_names("", "")
        self.assert_names("do 1 if true then else say 'a end", "")

    def test_parameters(self):
        self.assert_names("", "b a c", "b a c")
        self.assert_names("say a", "b a c d", "b a c d")

    def test_what_is_set(self):
        self.assert_names("b := 1 a := 2 c := 3", "b a c")

    def test_each_once(self):
        self.assert_names("b := 1 a := 2 b := 3 a := 4 try taken b end", "b a")

    def test_parameters_are_ahead_of_what_is_set(self):
        self.assert_names("c := 1 a := 2", "b a c", "b a")
        self.assert_names("c := 1", "z y c", "z y")

    def test_parameters_that_are_set_or_taken(self):
        self.assert_names("b := 1 c := 2 a := 3 try taken a end", "a b c", "a b")

    def test_what_a_try_takes_counts_where_the_try_begins(self):
        self.assert_names("try a := 1 taken b c := 2 end", "b a c")
        self.assert_names("a := 1 try b := 2 try c := 3 taken d end taken e end f := 4", "a e b d c f")
        self.assert_names("try try taken a end taken b try taken c end end", "b a c")
        self.assert_names("try a := 1 taken a a := 2 end", "a")

    def test_a_try_within_blocks_too(self):
        self.assert_names("do {| try a := 1 taken b end}", "b a")
        self.assert_names("do {a| try a := 1 taken b end}", "b")
        self.assert_names("do {b| try a := 1 taken b end}", "a")
        self.assert_names("try do {b| b := 1 c := 2} taken b end", "b c")

    def test_in_the_order_of_nodes(self):
        self.assert_names("if {| a := 1} then b := 1 else c := 1 end", "a b c")
        self.assert_names("while {| c := 1} then b := 1 end a := 1", "c b a")
        self.assert_names("do ({| d := 1} go {| b := 1} [{| a := 1}])", "d b a")
        self.assert_names("z := {| y := {| x := 1}} w := 1", "z y x w")
        self.assert_names("if true then else b := 1 end if true then a := 1 else end", "b a")

    def test_setfield_sets_no_name(self):
        self.assert_names("@a := 1 @b := {| @c := 2 d := 3}", "d")

    def test_names_that_are_only_read(self):
        self.assert_names("say a do (b + c) if d then else return [e] end x := y", "x")
        self.assert_names("do {a| say b return a}", "")

    def test_messages_fields_and_kinds_are_no_names(self):
        self.assert_names("do (self go (up on)) say @a do new A", "")

    def test_in_blocks(self):
        self.assert_names("do {| a := 1}", "a")
        self.assert_names("do {b| a := 1}", "a")
        self.assert_names("do {b| do {c| a := 1} d := 1}", "a d")

    def test_parameters_of_blocks(self):
        self.assert_names("do {a b|}", "")
        self.assert_names("do {a b| a := 1 b := 2 c := 3}", "c")
        self.assert_names("do {a| try taken a end}", "")

    def test_parameters_of_blocks_further_out(self):
        self.assert_names("do {a| do {b| a := 1 b := 2 c := 3}}", "c")
        self.assert_names("do {a| do {b| do {| do [{c| a := 1 if b then b := 1 else c := 1 end d := 1}]}}}", "d")

    def test_parameters_of_blocks_beside_or_within(self):
        self.assert_names("do {a|} do {b| a := 1}", "a")
        self.assert_names("do {| do {a|} a := 1}", "a")
        self.assert_names("do {a| b := 1 do {b| b := 2 a := 3}}", "b")
        self.assert_names("do [{a| a := 1} {b| a := 2 b := 3}]", "a")

    def test_set_outside_of_a_block_as_well_as_within(self):
        self.assert_names("a := 1 do {a| a := 2} b := 3", "a b")
        self.assert_names("do {a| a := 2} b := 3 a := 1", "b a")
        self.assert_names("a := {a| a := 2}", "a")
        self.assert_names("b := 1 do {| a := 2} a := 3", "b a")

    def test_parameters_of_the_method_and_of_a_block(self):
        self.assert_names("do {a| a := 1 b := 2}", "a b", "a")
        self.assert_names("do {b| b := 1 a := 2}", "a", "a")

    def test_many_names(self):
        words = ["w%d" % at for at in range(40)]
        self.assert_names("\n".join(word + " := 1" for word in words), " ".join(words))

    def test_made_up_methods(self):
        chance = random.Random(7)
        made_names = []
        for method, words, starts in made_methods(chance, 600):
            if starts:
                start = max(at for at in range(starts[0]) if words[at] == "method")
                made_names.append(names_by_words(words, start))
                self.assertEqual(names_of(method), made_names[-1])
        self.assertGreater(len(set(made_names)), 100)

    def test_name_of_the_argument(self):
        self.assertEqual(names_of(method=method_of("b := 1", "a")), ("a", "b"))


if __name__ == "__main__":
    unittest.main()
