"""What worths answer: [16]."""

import unittest

from tests.steads_help import ended, pair_with, raised

TOP = 10 ** 12 - 1
MAKERS = {"none": "none", "truth": "true", "number": "7", "text": "'ab", "list": "[ 1 2 ]", "block": "{ | }", "A": "self",
          "Thing": "new Thing"}
# For each kind of worth the messages that it knows, with worths that go with them.
KNOWN = {
    "number": {"+": "1", "-": "1", "*": "1", "/": "1", "rem": "1", "<": "1"},
    "text": {"+": "'", "<": "'", "size": ""}, "truth": {"and": "true", "or": "true", "not": ""},
    "list": {"size": "", "at": "0", "put": "0 1", "pop": "", "add": "1"}, "block": {"call": ""},
}
ALL_MESSAGES = sorted({message for known in KNOWN.values() for message in known} | {"=", "what", "other"})
RIGHT = {"number": "7", "text": "'ab", "truth": "true"}


class AnswerCase(unittest.TestCase):
    def answers(self, e, worth):
        told = ended("return " + e)
        self.assertEqual((type(told), told), (type(worth), worth), e)

    def raises(self, e, word):
        """The e of node 1 raises this."""
        self.assertEqual(raised("return " + e), (word, 0, 1), e)


class EverythingTest(AnswerCase):
    def test_what(self):
        for sort, maker in MAKERS.items():
            self.answers("( %s what )" % maker, sort)
            self.raises("( %s what 1 )" % maker, "count")

    def test_same(self):
        worths = ["none", "true", "false", "0", "1", "-1", "'", "'a", "'true", "'1", "'none"]
        for one in worths:
            for other in worths:
                self.answers("( %s = %s )" % (one, other), one == other)
            self.answers("( %s = new A )" % one, False)
            self.answers("( [ ] = %s )" % one, False)
            self.raises("( %s = )" % one, "count")
            self.raises("( %s = 1 1 )" % one, "count")

    def test_same_cells(self):
        for maker in ("[ 1 ]", "{ | }", "new A", "new Thing"):
            self.assertIs(ended("x := %s return ( x = x )" % maker), True)
            self.assertIs(ended("x := %s y := x return ( x = y )" % maker), True)
            self.assertIs(ended("x := %s return ( x = %s )" % (maker, maker)), False)
        self.answers("( self = self )", True)
        self.answers("( self = new A )", False)

    def test_what_is_no_message_of_a_kind_of_worth(self):
        for sort, maker in MAKERS.items():
            known = dict(KNOWN.get(sort, {}), **{"=": "1", "what": ""})
            for message in ALL_MESSAGES:
                if message not in known:
                    for worths in ("", "1", "1 2"):
                        self.raises("( %s %s %s )" % (maker, message, worths), "nomethod")

    def test_count(self):
        for sort, known in KNOWN.items():
            for message, worths in known.items():
                if message != "call":
                    e = "( %s %s %s none )" % (MAKERS[sort], message, worths)
                    self.raises(e, "count")
                if worths:
                    self.raises("( %s %s )" % (MAKERS[sort], message), "count")

    def test_operand(self):
        for sort in ("number", "text", "truth"):
            for message, worths in KNOWN[sort].items():
                if worths:
                    for other, maker in MAKERS.items():
                        if other != sort:
                            self.raises("( %s %s %s )" % (MAKERS[sort], message, maker), "operand")
        for other, maker in MAKERS.items():
            if other != "number":
                self.raises("( [ 1 ] at %s )" % maker, "operand")
                self.raises("( [ 1 ] put %s 1 )" % maker, "operand")


class NumbersTest(AnswerCase):
    def test_sums(self):
        for one, sign, other, worth in (
            (2, "+", 3, 5), (2, "-", 3, -1), (4, "*", -3, -12), (7, "/", 2, 3), (-7, "/", 2, -4), (7, "/", -2, -4),
            (-7, "/", -2, 3), (7, "rem", 2, 1), (-7, "rem", 2, 1), (7, "rem", -2, -1), (-7, "rem", -2, -1), (6, "rem", 3, 0),
            (0, "/", -5, 0), (TOP, "+", 0, TOP), (TOP, "-", 1, TOP - 1), (-TOP, "*", -1, TOP), (TOP, "/", 1, TOP),
            (TOP, "rem", -TOP, 0), (-1, "/", TOP, -1), (-1, "rem", TOP, TOP - 1), (10 ** 6, "*", 10 ** 6 - 1, TOP + 1 - 10 ** 6),
        ):
            self.answers("( %d %s %d )" % (one, sign, other), worth)

    def test_big(self):
        for e in ("( %d + 1 )", "( 1 + %d )", "( -2 - %d )", "( %d * 2 )", "( %d * %d )", "( -1 - %d )"):
            self.raises(e.replace("%d", str(TOP)), "big")
        self.raises("( 1000000 * 1000000 )", "big")
        self.raises("( -1000000 * 1000000 )", "big")

    def test_below(self):
        for one, other in ((1, 2), (2, 1), (2, 2), (-1, 0), (-TOP, TOP)):
            self.answers("( %d < %d )" % (one, other), one < other)

    def test_by_nought(self):
        for one in (0, 1, -5, TOP):
            self.raises("( %d / 0 )" % one, "bynought")
            self.raises("( %d rem 0 )" % one, "bynought")


class TextsTest(AnswerCase):
    def test_texts(self):
        self.answers("( 'ab + 'Cd_9 )", "abCd_9")
        self.answers("( ' + ' )", "")
        self.answers("( '%s + '%s )" % ("x" * 20, "y" * 20), "x" * 20 + "y" * 20)
        self.raises("( '%s + '%s )" % ("x" * 20, "y" * 21), "long")
        self.raises("( '%s + 'y )" % ("x" * 40), "long")
        self.answers("( '%s + ' )" % ("x" * 40), "x" * 40)
        self.answers("( ' size )", 0)
        self.answers("( '%s size )" % ("x" * 40), 40)

    def test_below(self):
        words = ["", "0", "9", "A", "Z", "_", "a", "ab", "b", "aB", "Ab", "10"]
        for one in words:
            for other in words:
                self.answers("( '%s < '%s )" % (one, other), [ord(sign) for sign in one] < [ord(sign) for sign in other])


class TruthsTest(AnswerCase):
    def test_truths(self):
        for one in (True, False):
            for other in (True, False):
                words = str(one).lower(), str(other).lower()
                self.answers("( %s and %s )" % words, one and other)
                self.answers("( %s or %s )" % words, one or other)
            self.answers("( %s not )" % str(one).lower(), not one)

    def test_both_are_worked_out(self):
        self.raises("( false and 1 )", "operand")
        self.raises("( true or none )", "operand")


class ListsTest(AnswerCase):
    def test_size_and_at(self):
        self.answers("( [ ] size )", 0)
        self.answers("( [ %s ] size )" % " ".join("1" for _ in range(30)), 30)
        for at, worth in enumerate((5, "a", None, True)):
            self.answers("( [ 5 'a none true ] at %d )" % at, worth)
        for at in (4, -1, -4, TOP, -TOP):
            self.raises("( [ 5 'a none true ] at %d )" % at, "noplace")
            self.raises("( [ 5 'a none true ] put %d 0 )" % at, "noplace")
        self.raises("( [ ] at 0 )", "noplace")

    def test_put(self):
        self.answers("( [ 1 2 ] put 1 'x )", "x")
        told = ended("x := [ 1 2 3 ] do ( x put 1 self ) return [ ( x at 0 ) ( x at 2 ) ( ( x at 1 ) = self ) ( x size ) ]",
                     more="")
        self.assertEqual(told, ("cell", 0))
        self.assertEqual(ended("x := [ 1 2 ] do ( x put 0 x ) return ( ( x at 0 ) = x )"), True)

    def test_pop(self):
        self.answers("( [ 1 'b ] pop )", "b")
        self.raises("( [ ] pop )", "noplace")
        self.assertEqual(ended("x := [ 1 2 3 ] do ( x pop ) return ( ( x size ) + ( ( x pop ) * 10 ) )"), 22)

    def test_add(self):
        self.assertIs(ended("x := [ 1 ] return ( ( x add 5 ) = x )"), True)
        self.assertEqual(ended("x := [ 1 ] do ( x add 5 ) return ( ( ( x at 1 ) * 10 ) + ( x size ) )"), 52)
        many = " ".join("1" for _ in range(29))
        self.assertEqual(ended("x := [ %s ] return ( ( x add x ) size )" % many), 30)
        self.raises("( [ 1 %s ] add 1 )" % many, "long")
        self.assertEqual(ended("x := [ %s ] do ( x add 1 ) do ( x pop ) return ( ( x add 2 ) at 29 )" % many), 2)

    def test_long_lists(self):
        self.assertEqual(ended("return ( [ %s ] size )" % " ".join("1" for _ in range(30))), 30)
        self.assertEqual(raised("return [ %s ]" % " ".join("1" for _ in range(31))), ("long", 0, 1))


class BlocksTest(AnswerCase):
    def test_call(self):
        self.answers("( { | } call )", None)
        self.answers("( { | return 5 } call )", 5)
        self.answers("( { a b c d |\nreturn ( a + ( b * ( c - d ) ) ) } call 2 3 9 5 )", 14)
        for worths in ("", "1", "1 2 3"):
            self.raises("( { a b | } call %s )" % worths, "count")
        self.raises("( { | } call 1 )", "count")

    def test_a_return_is_the_blocks_answer(self):
        self.assertEqual(ended("x := ( { | return 1 } call ) return ( x + 1 )"), 2)

    def test_fresh_surroundings_at_each_call(self):
        block = "b := { p | if ( p < 1 ) then p := 7 else end return p }\n"
        self.assertEqual(ended(block + "do ( b call 0 ) return ( b call 3 )"), 3)

    def test_names_further_out_are_shared(self):
        self.assertEqual(ended("n := 0 b := { | n := ( n + 1 ) }\ndo ( b call ) do ( b call ) return n"), 2)
        self.assertEqual(ended("b := { p | return { | p := ( p + 1 )\nreturn p } } c := ( b call 5 ) d := ( b call 5 )\n"
                               "do ( c call ) do ( c call ) return [ ( c call ) ( d call ) ]"), ("cell", 0))
        text = "b := { p | return { | p := ( p + 1 )\nreturn p } } c := ( b call 5 ) do ( c call ) return ( c call )"
        self.assertEqual(ended(text), 7)

    def test_blocks_outlive_the_method_that_made_them(self):
        more = ("kind M under Thing field f method made n : @f := 3\n"
                "return { a | n := ( n + a ) return ( n + @f ) } end end")
        text = "b := ( new M made 10 ) do ( b call 1 ) return ( b call 2 )"
        self.assertEqual(ended(text, more=more), 16)

    def test_self_of_a_block_is_that_of_its_frame(self):
        more = "kind M under Thing method made : return { | return self } end end"
        self.assertIs(ended("m := new M return ( ( ( m made ) call ) = m )", more=more), True)

    def test_a_block_calls_itself(self):
        text = "b := { n | if ( n < 1 ) then return 0 else end\nreturn ( n + ( b call ( n - 1 ) ) ) } return ( b call 5 )"
        self.assertEqual(ended(text), 15)


class ThingsTest(AnswerCase):
    def test_methods_are_ahead_of_deeds_of_worths(self):
        more = "kind M under Thing method what : return 1 end method size a : return a end end"
        self.assertEqual(ended("return ( new M what )", more=more), 1)
        self.assertEqual(ended("return ( new M size 4 )", more=more), 4)
        self.assertEqual(raised("return ( new M what 1 )", more=more)[0], "count")
        self.assertEqual(raised("return ( new M size )", more=more)[0], "count")
        self.assertIs(ended("return ( new M = 1 )", more=more), False)

    def test_nomethod(self):
        for message in ("other", "size", "call", "and", "+"):
            self.raises("( self %s )" % message, "nomethod")
            self.raises("( new Thing %s 1 2 )" % message, "nomethod")

    def test_parameters_and_other_names(self):
        more = "kind M under Thing method go a b : c := [ a b c ] return c end end"
        self.assertEqual(ended("x := ( new M go 1 2 ) return ( ( x at 2 ) what )", more=more), "none")

    def test_up_does_no_deed_of_worths(self):
        for message in ("what", "size", "other"):
            self.raises("( up %s )" % message, "nomethod")


class SeveralAtOnceTest(AnswerCase):
    def test_in_the_order_told(self):
        full = [("( [ ] other )", "nomethod"), ("( 1 + )", "count"), ("( 1 + none none )", "count"), ("( 'a / 0 )", "nomethod"),
                ("( 1 / 'a )", "operand"), ("( [ ] put none )", "count"), ("( [ ] put none 1 )", "operand"),
                ("( [ ] at true )", "operand"), ("( self go 1 )", "count")]
        for e, word in full:
            self.raises(e, word)

    def test_count_is_ahead_of_deep(self):
        more = "kind M under Thing method to a : end end"
        for worths, word in (("", "count"), ("1 2", "count"), ("1", "deep")):
            self.assertEqual(raised("do ( new M to %s )" % worths, more=more, deep=1)[0], word)
        for worths, word in (("", "count"), ("1", "deep")):
            self.assertEqual(raised("do ( { a | } call %s )" % worths, deep=1)[0], word)
        self.assertEqual(raised("do ( self nope )", deep=1)[0], "nomethod")

    def test_long_is_ahead_of_full(self):
        rows = " ".join("1" for _ in range(30))
        # The thing weighs 1, the list 31.
        self.assertEqual(raised("x := [ %s ] do ( x add 1 )" % rows, room=32)[0], "long")
        self.assertEqual(raised("x := [ %s ]" % rows, room=31)[0], "full")
        self.assertEqual(raised("x := [ %s 1 ]" % rows, room=31)[0], "long")
        self.assertEqual(pair_with("").view()[0], "idle")


if __name__ == "__main__":
    unittest.main()
