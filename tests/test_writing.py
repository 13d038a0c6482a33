"""How trees are written: [34]."""

import random
import unittest

from sendstead.pages import Page
from sendstead.writing import written
from tests.made_up import laid_out, made_words, words_of_all

ROW_WORDS = ("kind", "more", "field", "method", "else", "taken", "end")


def rows_by_words(words, statements):
    """The rows of these words, where statements begin at those with these numbers."""
    rows = []
    for at, word in enumerate(words):
        if at == 0 or at in statements or word in ROW_WORDS or len(" ".join(rows[-1] + [word])) > 100:
            rows.append([])
        rows[-1].append(word)
    return [" ".join(row) for row in rows]


class WritingCase(unittest.TestCase):
    def assert_written(self, text, *rows):
        """The trees of the text are written as these rows, and read from these again."""
        trees = Page("page", text).trees
        told = written(trees)
        self.assertIs(type(told), str)
        self.assertEqual(told.split("\n"), list(rows))
        self.assert_read_back(told, trees)

    def assert_read_back(self, told, trees):
        again = Page("page", told).trees
        # What is shown of trees tells 1 and True apart, too.
        self.assertEqual(repr(again), repr(trees))
        self.assertEqual(written(again), told)

    def assert_statements(self, text, *rows):
        """The statements of the text are written as these rows."""
        self.assert_written("more A method go : " + text + "\nend end", "more A", "method go :", *rows, "end", "end")

    def assert_expression(self, text, *rows):
        """The expression of the text is written as these rows, of which the first has more ahead."""
        self.assert_statements("do " + text, "do " + rows[0], *rows[1:])


class TreesTest(WritingCase):
    def test_no_trees(self):
        self.assertEqual(written(()), "")
        self.assertEqual(written(Page("page", " \n\n").trees), "")

    def test_kind(self):
        self.assert_written("kind A under Thing end", "kind A under Thing", "end")
        self.assert_written("kind Abc1 under B2 end", "kind Abc1 under B2", "end")

    def test_fields(self):
        self.assert_written("kind A under B field x end", "kind A under B", "field x", "end")
        self.assert_written(
            "kind A under B field x1 field yy field x1 end", "kind A under B", "field x1", "field yy", "field x1", "end"
        )

    def test_more(self):
        self.assert_written("more A end", "more A", "end")

    def test_methods(self):
        self.assert_written("more A method go : end end", "more A", "method go :", "end", "end")
        self.assert_written(
            "kind A under B field x method go a bc d1 : end method stop : return self end end",
            "kind A under B", "field x", "method go a bc d1 :", "end", "method stop :", "return self", "end", "end",
        )

    def test_several_trees(self):
        self.assert_written(
            "more B end kind A under B end more A method go : end end kind C under A end",
            "more B", "end", "kind A under B", "end", "more A", "method go :", "end", "end", "kind C under A", "end",
        )


class StatementsTest(WritingCase):
    def test_plain(self):
        self.assert_statements(
            "do 1 say 2 return 3 raise 4 a := 5 @a := 6",
            "do 1", "say 2", "return 3", "raise 4", "a := 5", "@a := 6",
        )

    def test_if(self):
        self.assert_statements("if a then else end", "if a then", "else", "end")
        self.assert_statements(
            "if (a < b) then do 1 do 2 else do 3 do 4 end do 5",
            "if ( a < b ) then", "do 1", "do 2", "else", "do 3", "do 4", "end", "do 5",
        )

    def test_while(self):
        self.assert_statements("while a then end", "while a then", "end")
        self.assert_statements("while [] then do 1 do 2 end do 3", "while [ ] then", "do 1", "do 2", "end", "do 3")

    def test_try(self):
        self.assert_statements("try taken a end", "try", "taken a", "end")
        self.assert_statements(
            "try do 1 do 2 taken ab do 3 do 4 end do 5",
            "try", "do 1", "do 2", "taken ab", "do 3", "do 4", "end", "do 5",
        )

    def test_within_others(self):
        self.assert_statements(
            "if a then while b then try taken c if d then else return e end end end else @x := y end",
            "if a then", "while b then", "try", "taken c", "if d then", "else", "return e", "end", "end", "end",
            "else", "@x := y", "end",
        )


class ExpressionsTest(WritingCase):
    def test_without_others(self):
        for text in (
            "0", "-7", "999999999999", "-999999999999", "'", "'end", "'Ab_9", "'" + "x" * 40, "'12", "'true", "true",
            "false",
            "none", "self", "a1", "@a1", "new A", "new Thing",
        ):
            self.assert_expression(text, text)

    def test_send(self):
        for message in ("+", "-", "*", "/", "<", "=", "go"):
            self.assert_expression("(1 " + message + ")", "( 1 " + message + " )")
            self.assert_expression("(a " + message + " b 'c)", "( a " + message + " b 'c )")

    def test_up_and_list(self):
        self.assert_expression("(up go)", "( up go )")
        self.assert_expression("(up go 1 a)", "( up go 1 a )")
        self.assert_expression("[]", "[ ]")
        self.assert_expression("[1 [a] (b - [])]", "[ 1 [ a ] ( b - [ ] ) ]")

    def test_block(self):
        self.assert_expression("{|}", "{ | }")
        self.assert_expression("{a b|}", "{ a b | }")

    def test_statements_of_blocks_begin_rows(self):
        self.assert_expression("{|say 1}", "{ |", "say 1 }")
        self.assert_expression("{a|say a return 1}", "{ a |", "say a", "return 1 }")
        self.assert_expression("{|if a then else end}", "{ |", "if a then", "else", "end }")
        self.assert_expression(
            "({a|do 1} call [{|} {b|return {|raise 2}}] 3)",
            "( { a |", "do 1 } call [ { | } { b |", "return { |", "raise 2 } } ] 3 )",
        )

    def test_behind_blocks(self):
        self.assert_statements("if {|do 1} then do 2 else end", "if { |", "do 1 } then", "do 2", "else", "end")
        self.assert_statements("while {|do 1} then end", "while { |", "do 1 } then", "end")
        self.assert_statements("a := {|do 1} do 2", "a := { |", "do 1 }", "do 2")


class LongRowsTest(WritingCase):
    def assert_wraps(self, ahead, word, behind="", rows=()):
        """With 100 signs the word stands on the row of what's ahead, with 101 on the next one with what's behind."""
        for length in (100, 101):
            fill = length - len(ahead.replace("FILL", "")) - 1 - len(word)
            filled = ahead.replace("FILL", "'" + "x" * (fill - 1))
            whole = filled + " " + word
            self.assertEqual(len(whole), length)
            wrapped = (whole, behind) if length == 100 else (filled, (word + " " + behind).strip())
            self.assert_statements("\n".join((whole, behind) + rows), *[row for row in wrapped if row], *rows)

    def test_exactly_100_and_101_signs(self):
        many = "a" + " a" * 35
        for ahead, word, behind in (
            ("do [ " + many + " FILL", "]", ""), ("do [ " + many + " FILL", "b", "c ]"),
            ("do [ " + many + " FILL", "-12", "]"), ("do [ " + many + " FILL", "@bc", "]"),
            ("do [ " + many + " FILL", "'bc", "]"), ("do [ " + many + " FILL", "'", "]"),
            ("do [ " + many + " FILL", "self", "b ]"), ("do [ " + many + " FILL", "none", "]"),
            ("do [ " + many + " FILL", "true", "]"), ("do [ " + many + " FILL", "new", "A ]"),
            ("do [ " + many + " FILL new", "Abc", "]"), ("do [ " + many + " FILL", "[", "] ]"),
            ("do [ " + many + " FILL", "{", "| } ]"), ("do [ " + many + " FILL {", "|", "} ]"),
            ("do [ " + many + " FILL { |", "}", "]"), ("do [ " + many + " FILL {", "abc", "| } ]"),
            ("do [ " + many + " FILL", "(", "up go ) ]"), ("do [ " + many + " FILL (", "up", "go ) ]"),
            ("do [ " + many + " FILL ( up", "going", ") ]"), ("do [ " + many + " FILL ( up go", ")", "]"),
            ("do ( [ " + many + " FILL ]", "+", "b )"), ("do ( a + " + many + " FILL", ")", ""),
            ("a := [ " + many + " FILL", "]", ""), ("@abc := [ " + many + " FILL", "bc", "]"),
            ("say [ " + many + " FILL", "]", ""), ("return [ " + many + " FILL", "]", ""),
            ("raise ( up go " + many + " FILL", ")", ""),
        ):
            self.assert_wraps(ahead, word, behind)
            self.assert_wraps(ahead, word, behind, ("do 1",))

    def test_then(self):
        self.assert_wraps("if [ a" + " a" * 35 + " FILL ]", "then", "", ("else", "end", "do 1"))
        self.assert_wraps("while [ a" + " a" * 35 + " FILL ]", "then", "", ("do 1", "end"))

    def test_parameters_and_colon(self):
        for length in (99, 100, 101, 102):
            head = "method go" + " ab" * 29 + " " + "c" * (length - 97)
            self.assertEqual(len(head), length)
            rows = [head, ":"] if length <= 100 else [head.rpartition(" ")[0], head.rpartition(" ")[2] + " :"]
            self.assert_written("more A " + head.replace("c", "\nc", 1) + " : end end", "more A", *rows, "end", "end")
        head = "method go" + " ab" * 29
        self.assert_written("more A " + head + " : end end", "more A", head + " :", "end", "end")

    def test_several_rows(self):
        self.assert_statements(
            "do [\n" + ("bc " * 33 + "\n") * 3 + "] do 1", "do [" + " bc" * 32, "bc" + " bc" * 32, "bc" + " bc" * 32,
            "bc ]", "do 1",
        )

    def test_long_words(self):
        texts = ["'" + "x" * 40] * 5
        self.assert_statements(
            "do [\n" + "\n".join(texts) + "]", "do [ " + " ".join(texts[:2]), " ".join(texts[:2]), texts[0] + " ]",
        )


class RowsByWordsTest(WritingCase):
    """What is written, judged by the words of a text and by where its statements begin."""

    def check(self, words, statements, text):
        trees = Page("page", text).trees
        told = written(trees)
        self.assertEqual(told, "\n".join(rows_by_words(words, statements)))
        self.assertEqual(words_of_all(trees), words)
        if told.count("\n") < 300:
            self.assert_read_back(told, trees)

    def test_made_up_texts(self):
        chance = random.Random(8)
        for _ in range(400):
            words, marks = made_words(chance)
            statements = {at for at, symbol in marks if symbol == "<statement>"}
            self.check(words, statements, laid_out(chance, words)[0])

    def test_long_rows(self):
        chance = random.Random(9)
        for _ in range(200):
            words, statements = ["more", "A", "method", "go", ":"], []
            for _ in range(chance.randrange(1, 9)):
                statements.append(len(words))
                words += ["do", "["]
                for _ in range(chance.randrange(60)):
                    words.append(chance.choice(("a", "12", "@top", "none", "'" + "x" * chance.randrange(41))))
                words.append("]")
            words += ["end", "end"]
            self.check(words, statements, laid_out(chance, words)[0])

    def test_more_than_300_rows(self):
        page = Page("page", "more A method go :\n" + "do 1 do 2\n" * 160 + "end end")
        rows = ["more A", "method go :"] + ["do 1", "do 2"] * 160 + ["end", "end"]
        self.assertEqual(written(page.trees), "\n".join(rows))

    def test_twelve_deep(self):
        nests = (("do { | ", "} "), ("if a then ", "else end "), ("while a then ", "end "), ("try ", "taken a end "))
        for before, behind in nests:
            words = ("more A method go : " + before * 12 + behind * 12 + "end end").split()
            statements = [at for at, word in enumerate(words) if word == before.partition(" ")[0]]
            self.check(words, statements, "\n".join(words))

    def test_rows_have_no_needless_blanks(self):
        chance = random.Random(10)
        for _ in range(100):
            words, _ = made_words(chance)
            told = written(Page("page", laid_out(chance, words)[0]).trees)
            for row in told.split("\n") if words else ():
                self.assertRegex(row, r"\A[^ ]+( [^ ]+)*\Z")
                self.assertLessEqual(len(row), 100)

    def test_name_of_the_argument(self):
        self.assertEqual(written(trees=(("more", "A", ()),)), "more A\nend")


if __name__ == "__main__":
    unittest.main()
