"""The first fault of a page: [5]."""

import unittest

from sendstead.errors import Fault, SteadError
from sendstead.pages import Page
from sendstead.signs import KEPT, words_of

HEAD = "kind A under Thing method go : "


def fault_of(text):
    """(row, column, why) of the text's fault, or None."""
    try:
        Page("main", text)
    except Fault as fault:
        assert fault.page == "main"
        return fault.row, fault.column, fault.why
    return None


class FaultsCase(unittest.TestCase):
    def assert_fault(self, text, row, column, why):
        self.assertEqual(fault_of(text), (row, column, why), repr(text))

    def assert_right(self, text):
        self.assertIsNone(fault_of(text), repr(text))

    def assert_wrong_words(self, text, *words):
        """None of these words fits behind the text."""
        for word in words:
            self.assert_fault(text + "\n " + word + "\nend ;", 2, 2, "word")

    def assert_wrong_in_method(self, text, *words):
        self.assert_wrong_words(HEAD + text, *words)


class PageOfFaultTest(unittest.TestCase):
    def test_page_of_the_fault(self):
        for name in ("main", "", "x"):
            for text in (";", "end", "kind", HEAD + "do " + "(" * 13):
                with self.assertRaises(Fault) as caught:
                    Page(name, text)
                self.assertEqual(caught.exception.page, name)

    def test_words_of_has_no_page_and_looks_at_words_alone(self):
        with self.assertRaises(Fault) as caught:
            words_of("end ;")
        fault = caught.exception
        self.assertEqual((fault.page, fault.row, fault.column, fault.why), ("", 1, 5, "sign"))
        self.assertEqual(words_of("end end"), (("end", 1, 1), ("end", 1, 5)))

    def test_a_fault_is_a_refusal(self):
        for error in (SteadError, ValueError):
            with self.assertRaises(error):
                Page("main", "end")


class WordTest(FaultsCase):
    def test_ahead_of_all(self):
        self.assert_wrong_words("", "a", "A", "end", "method", "field", "do", "(", "|", ":", "1", "'a", "@a", "self")
        self.assert_wrong_words("kind A under B end", "end", "method", "a", "A")
        self.assert_wrong_words("more A end", "end", "under", "field")

    def test_kind(self):
        self.assert_wrong_words("kind", "a", "kind", "under", "1", "end", "@a", "'A", "(")
        self.assert_wrong_words("kind A", "A", "field", "method", "end", "a", ":")
        self.assert_wrong_words("kind A under", "a", "under", "end", "field")
        self.assert_wrong_words("kind A under B", "kind", "more", "under", "A", "a", "do", ":")
        self.assert_wrong_words("kind A under B field", "A", "@a", "end", "field", "1", "'a", "method")
        self.assert_wrong_words("kind A under B field a", "a", ":", ":=", "kind", "do")
        self.assert_wrong_words("kind A under B method go : end", "field", "kind", "do", "a")

    def test_more(self):
        self.assert_wrong_words("more", "a", "more", "end", "kind")
        self.assert_wrong_words("more A", "under", "field", "A", "a", "more", "kind", ":")
        self.assert_wrong_words("more A method go : end", "field", "kind", "more")

    def test_method(self):
        self.assert_wrong_words("more A method", "A", ":", "+", "end", "method", "@a", "1", "=")
        self.assert_wrong_words("more A method go", ":=", "A", "@a", "end", "do", "1", "|", "(")
        self.assert_wrong_words("more A method go a b", ":=", "A", "end", "self", "+")
        self.assert_wrong_words("more A method go :", ":", "then", "else", "taken", "method", "A", "1", "(", "}", "self")

    def test_statements(self):
        self.assert_wrong_in_method("a", "=", ":", "a", "end", "1")
        self.assert_wrong_in_method("@a", "=", ":", "@a", "end")
        self.assert_wrong_in_method("", "@end", "@true", "none", "new", "up", "'a", "[", "{", "|", ":=")
        for word in ("a :=", "@a :=", "do", "say", "return", "raise", "if", "while"):
            self.assert_wrong_in_method(word, "end", "then", "do", "if", "try", ")", ":=", "A", "+", "up", "kind", "|")
        self.assert_wrong_in_method("do 1", "1", "then", "else", "taken", ")", "]", "}", "|", "+", "A", "method")

    def test_if(self):
        self.assert_wrong_in_method("if 1", "else", "end", "do", "a", "1")
        self.assert_wrong_in_method("if 1 then", "end", "then", "taken", "1")
        self.assert_wrong_in_method("if 1 then do 1", "end", "then", "taken")
        self.assert_wrong_in_method("if 1 then else", "else", "then", "taken")

    def test_while(self):
        self.assert_wrong_in_method("while 1", "else", "end", "do", "a", "1")
        self.assert_wrong_in_method("while 1 then", "else", "then", "taken", "1")

    def test_try(self):
        self.assert_wrong_in_method("try", "end", "then", "else", "A", "1")
        self.assert_wrong_in_method("try taken", "end", "A", "@a", "taken", "do", "1")
        self.assert_wrong_in_method("try taken a", "taken", "else", "then", "1")

    def test_send_and_up(self):
        self.assert_wrong_in_method("do (", ")", "+", "then", "A", "do", "end")
        self.assert_wrong_in_method("do (1", ")", "1", "A", ":=", ":", "@a", "(", "'a", "self", "end", "up", "-1", "true")
        self.assert_wrong_in_method("do (1 +", "+", "]", "}", "|", "end", "do", "A", "up")
        self.assert_wrong_in_method("do (up", ")", "+", "1", "A", "(", "up", "self", "@a")
        self.assert_wrong_in_method("do (up go", "+", "]", "end", ":")

    def test_list_and_block(self):
        self.assert_wrong_in_method("do [", ")", "}", "|", "+", "A", "end", "do", "up")
        self.assert_wrong_in_method("do [1", ")", "}", "+", "end")
        self.assert_wrong_in_method("do {", "}", "1", "A", "@a", "do", ":", "end", "self")
        self.assert_wrong_in_method("do {a", "}", ":", ":=", "end")
        self.assert_wrong_in_method("do {|", "|", "]", "end", "1", "then")
        self.assert_wrong_in_method("do {| do 1", "|", ")", "end")

    def test_new(self):
        self.assert_wrong_in_method("do new", "a", "new", "1", "end", "(", "@a", "'A", "self")

    def test_kept_words_are_not_free(self):
        for word in KEPT:
            self.assert_wrong_words("kind A under B field", word)
            self.assert_wrong_words("more A method", word)
            self.assert_wrong_words("more A method go", word)
            self.assert_wrong_in_method("try taken", word)
            self.assert_wrong_in_method("do {", word)
            self.assert_wrong_in_method("do (1", word)
            self.assert_wrong_in_method("do (up", word)
            self.assert_wrong_in_method("do", "@" + word)
            self.assert_wrong_in_method("", "@" + word + " := 1")
            self.assert_fault(HEAD + "do 1 " + word + " := 1 end end", *self.place_where_kept_fails(word))

    def place_where_kept_fails(self, word):
        column = len(HEAD + "do 1 ") + 1
        begins = ("do", "say", "return", "raise", "if", "while", "try")
        if word == "end":
            return 1, column + 4, "word"
        return (1, column + len(word) + 1, "word") if word in begins else (1, column, "word")


class EndTest(FaultsCase):
    def test_behind_the_last_sign(self):
        for text in (
            "kind", "kind A", "kind A under", "kind A under B", "kind A under B field", "more A", "more A method",
            "more A method go", "more A method go a", "more A method go :", HEAD + "end", HEAD + "a", HEAD + "a :=",
            HEAD + "do", HEAD + "do (", HEAD + "do (1", HEAD + "do (up", HEAD + "do [", HEAD + "do {", HEAD + "do {|",
            HEAD + "if 1", HEAD + "if 1 then", HEAD + "if 1 then else", HEAD + "while 1", HEAD + "try",
            HEAD + "try taken", HEAD + "do new", HEAD + "@a",
        ):
            self.assert_fault(text, 1, len(text) + 1, "end")
            self.assert_fault(text + "   ", 1, len(text) + 4, "end")
            self.assert_fault(text + "\n", 2, 1, "end")
            self.assert_fault(text + "  \n\n  ", 3, 3, "end")
            self.assert_fault("more B end\n\n " + text + " \n\n\n", 6, 1, "end")

    def test_at_the_bounds(self):
        self.assert_fault("kind".rjust(120), 1, 121, "end")
        self.assert_fault("kind".ljust(120), 1, 121, "end")
        self.assert_fault("kind" + "\n" * 299, 300, 1, "end")
        self.assert_fault("kind" + "\n" * 299 + " " * 120, 300, 121, "end")

    def test_texts_that_are_whole(self):
        for text in ("", "\n", "   ", "more A end", "more A end\n\n  "):
            self.assert_right(text)
        self.assert_right("more A end" + "\n" * 299)
        self.assert_right("more A end".rjust(120))


class SignTest(FaultsCase):
    def test_wrong_words(self):
        self.assert_fault(";", 1, 1, "sign")
        self.assert_fault("kind A under B\n  field x_y end", 2, 9, "sign")
        self.assert_fault(HEAD + "a:=1 end end", 1, len(HEAD) + 1, "sign")
        self.assert_fault("more A end\n\t", 2, 1, "sign")
        self.assert_fault("more A end\r\n", 1, 8, "sign")

    def test_long_rows(self):
        self.assert_fault("more A end".ljust(121), 1, 121, "sign")
        self.assert_fault("more A end".rjust(121), 1, 121, "sign")
        self.assert_fault("more A end\n" + " " * 121, 2, 121, "sign")
        self.assert_fault("more A " + " " * 113 + ";", 1, 121, "sign")

    def test_many_rows(self):
        self.assert_fault("more A end" + "\n" * 300, 301, 1, "sign")
        self.assert_fault("more A" + "\n" * 300 + "end", 301, 1, "sign")

    def test_ahead_of_end(self):
        self.assert_fault("kind ;", 1, 6, "sign")
        self.assert_fault("kind" + " " * 117, 1, 121, "sign")
        self.assert_fault("kind" + "\n" * 300, 301, 1, "sign")
        self.assert_fault("kind" + "\n" * 310, 301, 1, "sign")


class FirstTest(FaultsCase):
    def test_word_ahead_of_sign(self):
        self.assert_fault("end ;", 1, 1, "word")
        self.assert_fault("more A\nmore ;", 2, 1, "word")
        self.assert_fault("more A\n end end" + " " * 120, 2, 6, "word")
        self.assert_fault("\nend" + "\n" * 300, 2, 1, "word")
        self.assert_fault("more A end".ljust(117) + "ends and more", 1, 118, "word")
        self.assert_fault("\n" * 299 + "end\n;", 300, 1, "word")

    def test_sign_ahead_of_word(self):
        self.assert_fault("; end", 1, 1, "sign")
        self.assert_fault("more A\n ; more", 2, 2, "sign")
        self.assert_fault(" " * 120 + "end", 1, 121, "sign")
        self.assert_fault(" " * 130 + "end", 1, 121, "sign")
        self.assert_fault("\n" * 300 + "end", 301, 1, "sign")
        self.assert_fault(" " * 121 + "\nend", 1, 121, "sign")

    def test_word_ahead_of_deep(self):
        self.assert_fault(HEAD + "\ndo " + "(1 + " * 12 + "\nthen " + "(" * 2, 3, 1, "word")
        self.assert_fault(HEAD + "\ndo " + "(1 " * 12 + "\n(", 2, 7, "word")
        twelve = "if 1 then " * 12
        self.assert_fault(HEAD + "\n" + twelve[:-6] + "\nif", 3, 1, "word")
        self.assert_fault(HEAD + "\n" + twelve + "\n(", 3, 1, "word")
        self.assert_fault(HEAD + "\n" + twelve + "\nif", 3, 1, "deep")

    def test_deep_ahead_of_others(self):
        self.assert_fault(HEAD + "\ndo " + "[" * 13 + ";", 2, 16, "deep")
        self.assert_fault(HEAD + "\ndo " + "[" * 13 + "\nend", 2, 16, "deep")
        self.assert_fault(HEAD + "\ndo " + "[" * 13, 2, 16, "deep")

    def test_deep_behind_others(self):
        self.assert_fault(HEAD + "\n; do " + "[" * 13, 2, 1, "sign")
        self.assert_fault(HEAD + "\ndo do " + "[" * 13, 2, 4, "word")


class DeepTest(FaultsCase):
    def test_twelve_and_thirteen_of_each(self):
        for before, piece, middle, behind in (
            ("do", "(", "1", " + )"), ("do", "(1 + ", "1", ")"), ("do", "(up go ", "1", ")"),
            ("do", "[", "1", "]"), ("do", "{|do ", "1", "}"), ("", "if 1 then ", "", " else end"),
            ("", "if 1 then else ", "", " end"), ("", "while 1 then ", "", " end"), ("", "try ", "", " taken a end"),
            ("", "try taken a ", "", " end"),
        ):
            twelve = HEAD + before + "\n" + (piece * 6 + "\n") * 2 + "\n"
            self.assert_right(twelve + middle + behind * 6 + "\n" + behind * 6 + " end end")
            self.assert_fault(twelve + piece + middle + "\n" + behind * 12, 5, 1, "deep")

    def test_mixed(self):
        eleven = HEAD + "\nif (1 = 1) then while true then try taken a\ndo [{| return (up go [(1 + [[{| say "
        behind = " }]])])}] end end else end end end"
        self.assert_right(eleven + "[]" + behind)
        self.assert_right(eleven + "(1 + ) say 1" + behind)
        self.assert_fault(eleven + "\n  [ ( 1 + ) ]", 4, 5, "deep")
        self.assert_fault(eleven + "1 try\nif", 4, 1, "deep")

    def test_blocks_count_what_is_around_them(self):
        around = HEAD + "\ntry while 1 then if 1 then do [[(1 call {a|\n"
        behind = "\n})]] else end end taken b end end end"
        self.assert_right(around + "x := [[[[[1]]]]]" + behind)
        self.assert_fault(around + "x := [[[[[[1]]]]]]" + behind, 3, 11, "deep")
        self.assert_fault(around + "do [[[[[\nnew A {|", 4, 7, "deep")

    def test_what_has_ended_is_not_open(self):
        self.assert_right(HEAD + "do [\n" + "[]" * 13 + "\n" + "(1 + )" * 13 + "\n" + "{|}" * 13 + "] end end")
        for piece in ("if 1 then else end\n", "while 1 then end\n", "try taken a end\n", "do ([1] + {|} [2])\n"):
            self.assert_right(HEAD + piece * 20 + "do " + "[" * 12 + "]" * 12 + " end end")
        twelve = "do " + "[" * 11 + "[] [] (1 + ) {|}" + "]" * 11
        self.assert_right(HEAD + twelve + "\nend method on : " + twelve + " end end")

    def test_the_test_of_an_if_stands_within_it(self):
        self.assert_right(HEAD + "if " + "[" * 11 + "]" * 11 + " then else end end end")
        self.assert_fault(HEAD + "\nif " + "[" * 12 + "]" * 12 + " then else end end end", 2, 15, "deep")
        self.assert_right(HEAD + "do " + "[" * 12 + "]" * 12 + " end end")

    def test_kinds_and_methods_are_not_open(self):
        self.assert_right("kind A under B method go : do " + "[" * 12 + "]" * 12 + " end end")
        self.assert_right("more A method go : do " + "[" * 12 + "]" * 12 + " end end")


if __name__ == "__main__":
    unittest.main()
