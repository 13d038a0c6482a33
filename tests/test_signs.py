"""Words of texts: [1] and [2], and the fault "sign" of [5]."""

import unittest

from sendstead.errors import Fault
from sendstead.signs import BIG, KEPT, words_of

KEPT_WORDS = (
    "kind under more field method end if then else while do try taken return raise say new self up true false none"
)


def fault_of(text):
    """(page, row, column, why) of the text's fault, or None."""
    try:
        words_of(text)
    except Fault as fault:
        return fault.page, fault.row, fault.column, fault.why
    return None


class WordsCase(unittest.TestCase):
    def assert_words(self, text, *words):
        self.assertEqual(words_of(text), words)

    def assert_fault(self, text, row, column):
        self.assertEqual(fault_of(text), ("", row, column, "sign"), repr(text))

    def assert_right(self, word):
        self.assertEqual(words_of(word), ((word, 1, 1),))

    def assert_wrong(self, word):
        self.assert_fault(word, 1, 1)
        self.assert_fault("end\n  end " + word + " end", 2, 7)


class ConstantsTest(unittest.TestCase):
    def test_big(self):
        self.assertEqual(BIG, 1000000000000)

    def test_kept_are_all_kept_words_sorted(self):
        self.assertEqual(KEPT, tuple(sorted(KEPT_WORDS.split())))
        self.assertEqual(len(KEPT), 22)


class PartingTest(WordsCase):
    def test_blanks_and_rows_part_words(self):
        self.assert_words(
            "kind  A\n   under\n\nB ",
            ("kind", 1, 1), ("A", 1, 7), ("under", 2, 4), ("B", 4, 1),
        )

    def test_told_is_told_in_tuples(self):
        told = words_of("kind A")
        self.assertIs(type(told), tuple)
        self.assertTrue(all(type(word) is tuple for word in told))

    def test_nothing_has_no_words(self):
        for text in ("", " ", "\n", "\n\n", "  \n   "):
            self.assert_words(text)

    def test_brackets_are_words_by_themselves(self):
        for sign in "(){}[]|":
            self.assert_right(sign)
            self.assert_words("a" + sign + "b", ("a", 1, 1), (sign, 1, 2), ("b", 1, 3))
            self.assert_words(sign + sign, (sign, 1, 1), (sign, 1, 2))
            self.assert_words("'a" + sign + "'", ("'a", 1, 1), (sign, 1, 3), ("'", 1, 4))
            self.assert_words("@a" + sign + "-1", ("@a", 1, 1), (sign, 1, 3), ("-1", 1, 4))
            self.assert_words("+" + sign + ":=", ("+", 1, 1), (sign, 1, 2), (":=", 1, 3))
            self.assert_words("A\n" + sign + "\nB", ("A", 1, 1), (sign, 2, 1), ("B", 3, 1))

    def test_brackets_side_by_side(self):
        self.assert_words(
            "([{a|b}])",
            ("(", 1, 1), ("[", 1, 2), ("{", 1, 3), ("a", 1, 4), ("|", 1, 5),
            ("b", 1, 6), ("}", 1, 7), ("]", 1, 8), (")", 1, 9),
        )

    def test_other_marks_part_nothing(self):
        for word in ("a+b", "a:=1", "1-2", "go:", "a<b", "a=b", "a*", "/a", "a@b", "a'b", "+-", "::", "=:", "<=", "=="):
            self.assert_wrong(word)

    def test_a_wrong_word_ends_at_a_bracket(self):
        self.assert_fault("a (b;c)", 1, 4)
        self.assert_fault("(;)", 1, 2)


class WordsTest(WordsCase):
    def test_marks(self):
        for word in ("+", "-", "*", "/", "<", "=", ":=", ":"):
            self.assert_right(word)

    def test_other_signs_are_no_words(self):
        for word in "!\"#$%&,.;>?\\^_`~@":
            self.assert_wrong(word)

    def test_kept_words_are_words(self):
        for word in KEPT_WORDS.split():
            self.assert_right(word)
            self.assert_right("@" + word)
            self.assert_right("'" + word)

    def test_small_words(self):
        for word in ("a", "z", "a0", "z9", "abc123def456", "a" * 12, "ends", "i"):
            self.assert_right(word)
        for word in ("a" * 13, "abc123def4567", "aB", "a_b", "_a", "a-b", "0a", "1x", "ab!"):
            self.assert_wrong(word)

    def test_names_of_kinds(self):
        for word in ("A", "Z", "Thing", "A0", "AbC123", "A" * 12, "Abcdefghijkl", "END"):
            self.assert_right(word)
        for word in ("A" * 13, "Abcdefghijklm", "A_b", "A-", "Ab.c", "-A", "@A", "0A"):
            self.assert_wrong(word)

    def test_fields(self):
        for word in ("@a", "@a1", "@" + "a" * 12):
            self.assert_right(word)
        for word in ("@", "@@a", "@A", "@1", "@" + "a" * 13, "@a_b", "@'a", "@+"):
            self.assert_wrong(word)
        self.assert_fault("@ a", 1, 1)
        self.assert_fault("@(", 1, 1)

    def test_texts(self):
        for word in ("'", "'a", "'Z", "'0", "'_", "'aB_9", "'" + "x" * 40, "'end"):
            self.assert_right(word)
        for word in ("'" + "x" * 41, "'a-b", "''", "'a'", "'.", "'@a", "'a:"):
            self.assert_wrong(word)
        self.assert_words("' a", ("'", 1, 1), ("a", 1, 3))

    def test_figures(self):
        for word in ("0", "1", "9", "10", "-1", "-10", "1234567890", "999999999999", "-999999999999"):
            self.assert_right(word)
        for word in ("-0", "00", "01", "007", "-01", "-00", "--1", "+1", "1-", "1_000", "1.0", "1e3", "0x1"):
            self.assert_wrong(word)

    def test_numbers_stay_within_big(self):
        for word in ("1000000000000", "-1000000000000", "1000000000001", "9999999999999", "1" + "0" * 60):
            self.assert_wrong(word)
        self.assert_fault("1" * 5000, 1, 1)
        self.assert_fault("0000000000001", 1, 1)

    def test_signs_of_other_scripts_are_no_words(self):
        for word in ("\u00b2", "\u0661", "\u00e4", "\u03b1", "A\u0130", "1\u0662", "'\u00e9", "\u2028", "a\u00a0b"):
            self.assert_wrong(word)

    def test_signs_below_the_blank_and_above_tilde(self):
        for sign in ("\t", "\r", "\0", "\x0b", "\x0c", "\x1f", "\x7f", "\x80", "\x85", "\xa0", "\u3000"):
            self.assert_wrong(sign)
            self.assert_wrong("a" + sign + "b")
            self.assert_fault("end (" + sign + ")", 1, 6)
            self.assert_fault("end" + sign, 1, 1)
            self.assert_fault("end\nend " + sign, 2, 5)

    def test_the_first_wrong_word_is_told(self):
        self.assert_fault("a B ; aB\n_", 1, 5)
        self.assert_fault("a B\n  _ ;\n;", 2, 3)


class LongTest(WordsCase):
    def test_rows_of_120_signs(self):
        self.assert_words(" " * 120)
        self.assert_words(" " * 117 + "end", ("end", 1, 118))
        self.assert_words(" " * 119 + "(\n" + "(" + " " * 119, ("(", 1, 120), ("(", 2, 1))

    def test_rows_of_121_signs(self):
        self.assert_fault(" " * 121, 1, 121)
        self.assert_fault("end" + " " * 118, 1, 121)
        self.assert_fault(" " * 118 + "end", 1, 121)
        self.assert_fault(" " * 120 + "(", 1, 121)
        self.assert_fault("\n\n" + " " * 5000 + "\n;", 3, 121)
        self.assert_fault("\n" + "end " * 31 + "\n", 2, 121)

    def test_wrong_words_around_sign_120(self):
        self.assert_fault(" " * 119 + ";", 1, 120)
        self.assert_fault(" " * 120 + ";", 1, 121)
        self.assert_fault(" " * 130 + ";", 1, 121)
        self.assert_fault("end" + " " * 120 + ";", 1, 121)
        self.assert_fault("; " + " " * 120, 1, 1)

    def test_a_word_over_sign_120_is_looked_at_whole(self):
        self.assert_fault(" " * 119 + "endA", 1, 120)
        self.assert_fault(" " * 100 + "'" + "x" * 41, 1, 101)
        self.assert_fault(" " * 100 + "'" + "x" * 40, 1, 121)

    def test_a_fault_in_an_earlier_row_comes_first(self):
        self.assert_fault("\n;\n" + " " * 121, 2, 1)
        self.assert_fault("\n" + " " * 121 + "\n;", 2, 121)

    def test_300_rows(self):
        self.assert_words("\n" * 299)
        self.assert_words("\n" * 299 + "end", ("end", 300, 1))
        self.assert_words("end\n" * 299, *[("end", row, 1) for row in range(1, 300)])

    def test_301_rows(self):
        self.assert_fault("\n" * 300, 301, 1)
        self.assert_fault("end\n" * 300, 301, 1)
        self.assert_fault("\n" * 300 + "   end", 301, 1)
        self.assert_fault("\n" * 300 + ";", 301, 1)
        self.assert_fault("\n" * 400 + "  ;", 301, 1)
        self.assert_fault("\n" * 300 + " " * 121, 301, 1)

    def test_faults_ahead_of_row_301(self):
        self.assert_fault("\n" * 299 + "  ;\n", 300, 3)
        self.assert_fault("\n" * 299 + " " * 121 + "\n", 300, 121)


if __name__ == "__main__":
    unittest.main()
