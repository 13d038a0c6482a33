"""Steads and their deeds, with what refuses them: [25] to [28]."""

import unittest

from sendstead.errors import (
    Busy, Clash, Count, Fault, Full, Idle, Many, NoDeed, NoField, NoFrame, NoImage, NoKind, NoMethod, NoName, NoWord, Ring,
    Used, Worn,
)
from sendstead.images import read_image
from sendstead.leadings import leads
from sendstead.steads import DEEDS, DEEP, ROOM, Stead
from tests.steads_help import Pair, SteadCase, at_path, begun, bent, everything, pair_with, paths

NO_TEXTS = (None, 0, True, (), [], b"a", 1.0, ("a",))
NO_WORTHS = ((), [], {}, ("cell", 0), 1.0, 10 ** 12, -(10 ** 12), "x" * 41, "a b", "'a", b"a", object())
TEXT = """kind A under Thing field f
  method go a :
    b := { p | say p do ( self to ) }
    do ( b call a )
    return b
  end
  method to :
    say @f
  end
end
kind B under A field g end
kind C under Thing field c end
"""


class NewSteadTest(SteadCase):
    def test_a_new_one(self):
        self.assertEqual((ROOM, DEEP, DEEDS), (120, 20, 600))
        for stead in (Stead(), Stead(quick=True), Stead(room=1, deep=1), Stead(quick=False, room=400, deep=40)):
            self.assertEqual(stead.view(), ("idle", 0, (), None, None, (), ()))
            self.assertEqual((len(stead), stead.looked(), stead.places(), stead.stops(), stead.cells()), (0, 0, (), (), ()))
            self.assertEqual((stead.book.kinds(), stead.book.stamp()), ((), 0))
        self.assertEqual(Stead().image()[4:6], (120, 20))

    def test_room_and_deep(self):
        for more in (0, -1, 10 ** 20, None, True, False, "5", 5.0, (), [5]):
            for worths in ({"room": more}, {"deep": more}):
                with self.assertRaises(Many):
                    Stead(**worths)
        for worths in ({"room": 401}, {"deep": 41}, {"room": 400, "deep": 41}):
            with self.assertRaises(Many):
                Stead(quick=True, **worths)

    def test_a_book_of_its_own(self):
        one, other = Stead(), Stead()
        book = one.book
        one.load("a", TEXT)
        self.assertEqual((one.book.kinds(), other.book.kinds()), (("A", "B", "C"), ()))
        one.field("C", "d", 1)
        one.under("C", "B")
        self.assertIs(one.book, book)
        self.assertEqual((book.fields("C"), book.stamp()), (("f", "g", "c", "d"), 3))


class BeginTest(SteadCase):
    def test_begin(self):
        pair = Pair(TEXT)
        self.assertIsNone(pair.begin("B", "go", (5,)))
        self.assertEqual(pair.view(), ("paused", 0, (), None, None, ((0, -1, 0, ("cell", 0), ("cell", 1), (5,), ()),),
                                       (("thing", "B", (None, None)), ("names", (5, None), None))))
        self.assertEqual(len(pair), 2)

    def test_the_last_answer(self):
        pair = pair_with("@f := 1 return self", fields="f", more="more A method to a : @f := [ @f a ] return self end end")
        pair.begin("A", "go")
        pair.run(5)
        self.assertIsNone(pair.begin(None, "to", ("x",)))
        pair.run(5)
        self.assertEqual(pair.view()[6], (("thing", "A", (("cell", 1),)), ("list", (1, "x"))))

    def test_busy(self):
        pair = Pair(TEXT)
        pair.begin("A", "go", (1,))
        for worths in (("A", "go", (1,)), ("X", "go"), (None, "go"), ("A", "nope")):
            self.assert_refused(Busy, pair, "begin", *worths)

    def test_no_kind(self):
        pair = Pair(TEXT)
        for kind in ("X", "Thing", "", "a", "A ", "x y", None):
            self.assert_refused(NoKind, pair, "begin", kind, "go", (1,))
            self.assert_refused(NoKind, pair, "begin", kind, "nope", ())
        for e in ("1", "none", "[ ]", "{ | }", "'A"):
            pair = pair_with("return " + e)
            pair.begin("A", "go")
            pair.run(1)
            self.assert_refused(NoKind, pair, "begin", None, "go")

    def test_no_method(self):
        pair = Pair(TEXT)
        for message in ("nope", "", "what", "=", "+", "a b"):
            self.assert_refused(NoMethod, pair, "begin", "A", message, (1,))
        self.assert_refused(NoMethod, pair, "begin", "C", "go", (1,))
        pair = pair_with("return new Thing")
        pair.begin("A", "go")
        pair.run(1)
        self.assert_refused(NoMethod, pair, "begin", None, "go")
        self.assert_refused(NoMethod, pair, "begin", None, "what")

    def test_count(self):
        pair = Pair(TEXT)
        for worths in ((), (1, 2), (1, 2, 3, 4, 5, 6)):
            self.assert_refused(Count, pair, "begin", "A", "go", worths)
        self.assert_refused(Count, pair, "begin", "A", "to", (1,))

    def test_count_is_ahead_of_full(self):
        pair = pair_with("", room=1, fields="f")
        self.assert_refused(Count, pair, "begin", "A", "go", (1,))
        self.assert_refused(Full, pair, "begin", "A", "go")
        self.assert_refused(NoMethod, pair, "begin", "A", "nope")

    def test_a_fault_is_forgotten(self):
        pair = pair_with("raise self")
        pair.begin("A", "go")
        pair.run(1)
        pair.begin("A", "go")
        self.assertEqual((pair.view()[0], pair.view()[4]), ("paused", None))
        self.assert_refused(Idle, pair, "fault_place")

    def test_no_deed(self):
        pair = Pair(TEXT)
        for other in NO_TEXTS:
            if other is not None:
                self.assert_refused(NoDeed, pair, "begin", other, "go", (1,))
            self.assert_refused(NoDeed, pair, "begin", "A", other, (1,))
        for other in (None, 0, True, "a", [1], {}, 1.0) + tuple((worth,) for worth in NO_WORTHS):
            self.assert_refused(NoDeed, pair, "begin", "A", "go", other)
        pair.begin("A", "go", (1,))
        self.assert_refused(NoDeed, pair, "begin", 1, "go")

    def test_all_plain_worths(self):
        for worth in (None, True, False, 0, 1, 10 ** 12 - 1, 1 - 10 ** 12, "", "x" * 40, "aZ_9"):
            pair = pair_with("return a", parameters="a")
            pair.begin("A", "go", (worth,))
            pair.run(1)
            self.assertEqual((pair.view()[3], type(pair.view()[3])), (worth, type(worth)))


class RunTest(SteadCase):
    def test_beats(self):
        pair = begun("while true then end")
        for beats in (0, 1, 7, 2000, 0):
            self.assertEqual(pair.run(beats), beats)
        self.assertEqual(pair.view()[1], 2008)
        pair = begun("say 1 say 2 say 3")
        self.assertEqual((pair.run(2), pair.run(5)), (2, 1))

    def test_idle(self):
        pair = Pair(TEXT)
        self.assert_refused(Idle, pair, "run", 1)
        pair.begin("A", "to")
        pair.run(5)
        self.assert_refused(Idle, pair, "run", 0)
        pair = begun("raise 1")
        pair.run(1)
        self.assert_refused(Idle, pair, "run", 1)

    def test_no_deed(self):
        for pair in (Pair(TEXT), begun("say 1")):
            for beats in (-1, 2001, 10 ** 20, None, True, False, "1", 1.0, (), [1]):
                self.assert_refused(NoDeed, pair, "run", beats)
            for marks in (None, [], "ab", 1, True, {}, (1,), (("a",),), (("a", 1, 1),), (["a", 1],), ((1, "a"),), (("a", True),),
                          (("a", None),), (("a", "1"),), ((None, 1),), ("ab",), (("a", 1), None), (("a", 1.0),)):
                self.assert_refused(NoDeed, pair, "run", 1, marks=marks)

    TEXT = "kind A under Thing method go :\nsay 1 say\n2\ndo ( self to )\nsay 3 say 4\nend method to :\nsay 5\nend end"

    def runs(self, *marks):
        """How many beats began in each run, up to the end."""
        pair = Pair(self.TEXT)
        pair.begin("A", "go")
        told = []
        while pair.view()[0] == "paused":
            told.append(pair.run(100, marks=marks))
        return told

    def test_marks(self):
        self.assertEqual(self.runs(), [6])
        # Not ahead of the run's first beat; and at each statement that begins there.
        self.assertEqual(self.runs(("a", 2)), [1, 5])
        # By the first word of the statement.
        self.assertEqual(self.runs(("a", 3)), [6])
        self.assertEqual(self.runs(("a", 4)), [2, 4])
        self.assertEqual(self.runs(("a", 7)), [3, 3])
        self.assertEqual(self.runs(("a", 5)), [4, 1, 1])
        self.assertEqual(self.runs(("a", 7), ("a", 4), ("a", 4)), [2, 1, 3])
        for mark in (("b", 7), ("a", 70), ("a", 0), ("a", -7), ("", 7), ("no page", 7), ("a", 10 ** 20), ("A", 7)):
            self.assertEqual(self.runs(mark), [6])

    def test_marks_and_beats(self):
        pair = Pair(self.TEXT)
        pair.begin("A", "go")
        self.assertEqual(pair.run(1, marks=(("a", 7),)), 1)
        self.assertEqual(pair.run(2, marks=(("a", 7),)), 2)
        self.assertEqual(pair.run(0, marks=(("a", 7),)), 0)
        self.assertEqual(pair.where(1), ("a", 7, 1))

    def test_marks_of_a_while(self):
        pair = begun("i := 0\nwhile ( i < 3 ) then\ni := ( i + 1 )\nend")
        self.assertEqual([pair.run(100, marks=(("a", 4),)) for _ in range(5)], [1, 2, 2, 2, 1])

    def test_marks_go_by_the_page_of_the_version(self):
        pair = Pair(self.TEXT, "more A method to :\n\n\n\n\n\nsay 7\nend end")
        pair.begin("A", "go")
        self.assertEqual(pair.run(100, marks=(("a", 7),)), 6)
        pair.begin("A", "go")
        self.assertEqual(pair.run(100, marks=(("b", 7),)), 3)


class AgainTest(SteadCase):
    def begun(self):
        """A run with three frames: of go, of its block, of to."""
        pair = Pair(TEXT)
        pair.begin("B", "go", (5,))
        pair.run(4)
        self.assertEqual([frame[:3] for frame in pair.view()[5]], [(0, -1, 8), (0, 1, 5), (1, -1, 0)])
        return pair

    def test_of_a_method(self):
        pair = self.begun()
        self.assertIsNone(pair.again(0))
        self.assertEqual(pair.view()[1:], (4, ("5",), None, None, ((0, -1, 0, ("cell", 0), ("cell", 1), (5,), ()),),
                                           (("thing", "B", (None, None)), ("names", (5, None), None))))
        pair.run(100)
        self.assertEqual(pair.view()[1:3], (10, ("5", "5", "none")))

    def test_of_a_block(self):
        pair = self.begun()
        outer = pair.view()[6][pair.view()[5][1][4][1]][2]
        pair.again(1)
        self.assertEqual([frame[:3] for frame in pair.view()[5]], [(0, -1, 8), (0, 1, 2)])
        frames, cells = pair.view()[5:]
        self.assertEqual(cells[frames[1][4][1]], ("names", (5,), outer))
        self.assertEqual(outer, frames[0][4])

    def test_names_are_fresh(self):
        pair = begun("do ( { p | p := 7 say p } call 1 )")
        pair.run(2)
        pair.again(1)
        pair.run(2)
        self.assertEqual(pair.view()[2], ("7",))
        pair = begun("a := 2 b := 3 say a say b", 1, parameters="a")
        pair.run(2)
        self.assertEqual(pair.view()[6][1], ("names", (2, 3), None))
        pair.again(0)
        self.assertEqual(pair.view()[6][1], ("names", (1, None), None))

    def test_what_self_finds_now(self):
        pair = self.begun()
        pair.load("x", "more B method to : say 'new end end")
        pair.again(2)
        self.assertEqual([frame[:3] for frame in pair.view()[5]], [(0, -1, 8), (0, 1, 5), (2, -1, 0)])
        pair.run(100)
        self.assertEqual(pair.view()[2], ("5", "new"))
        pair.begin("B", "to")
        self.assertEqual(pair.view()[5][0][0], 2)

    def test_where_an_up_had_found_it(self):
        pair = Pair("kind A under Thing method to : say 1 end end\nkind B under A method to : do ( up to ) end end")
        pair.begin("B", "to")
        pair.run(1)
        self.assertEqual([frame[0] for frame in pair.view()[5]], [1, 0])
        pair.again(1)
        self.assertEqual([frame[0] for frame in pair.view()[5]], [1, 1])
        pair.run(1)
        self.assertEqual([frame[0] for frame in pair.view()[5]], [1, 1, 0])

    def test_no_method_and_count(self):
        pair = self.begun()
        pair.gone("A", "to")
        self.assert_refused(NoMethod, pair, "again", 2)
        pair.load("x", "more A method to a : end method go : end end")
        self.assert_refused(Count, pair, "again", 2)
        self.assert_refused(Count, pair, "again", 0)
        # A block is the same one.
        pair.again(1)
        pair.gone("A", "go")
        self.assert_refused(NoMethod, pair, "again", 0)

    def test_an_empty_method_is_over_at_once(self):
        pair = self.begun()
        pair.load("x", "more A method to : end end")
        pair.again(2)
        self.assertEqual([frame[:3] for frame in pair.view()[5]], [(0, -1, 11)])
        pair.load("y", "more A method go a : end end")
        pair.again(0)
        self.assertEqual(pair.view()[:2] + pair.view()[3:6], ("ended", 4, None, None, ()))

    def test_an_empty_method_may_end_in_a_fault(self):
        pair = Pair("kind A under Thing method go : do ( 1 + ( self to ) ) end method to : say 1 end end")
        pair.begin("A", "go")
        pair.run(1)
        pair.load("x", "more A method to : end end")
        self.assertIsNone(pair.again(1))
        self.assertEqual(pair.view()[:5], ("failed", 1, (), None, ("operand", 0, 1)))

    def test_refused_in_order(self):
        pair = Pair(TEXT)
        for k in (0, -1, 5, None, "0", True, (), 1.0):
            self.assert_refused(Idle, pair, "again", k)
        pair = self.begun()
        for k in (3, -1, 10 ** 20, None, "0", True, False, (), [], 1.0, b"0"):
            self.assert_refused(NoFrame, pair, "again", k)

    def test_given_worths_stay(self):
        pair = Pair("kind A under Thing method go : do ( self to [ 1 ] ) end method to l : do ( l add 2 ) say ( l size ) end end")
        pair.begin("A", "go")
        pair.run(2)
        pair.again(1)
        pair.run(2)
        self.assertEqual(pair.view()[2], ("3",))


class NamedTest(SteadCase):
    def test_of_a_method(self):
        pair = begun("say a say b b := 1", 5, parameters="a")
        self.assertIsNone(pair.named(0, "a", "x"))
        pair.named(0, "b", True)
        pair.run(2)
        self.assertEqual(pair.view()[2], ("x", "true"))

    def test_in_a_blocks_frame(self):
        pair = begun("a := 1 p := 2 do ( { p | say [ a p ] do ( { q | say q say p say a } call 5 ) } call 3 ) say p")
        pair.run(4)
        pair.named(1, "p", 7)
        pair.named(1, "a", 8)
        self.assert_refused(NoName, pair, "named", 1, "q", 1)
        pair.named(0, "p", 9)
        self.assert_refused(NoName, pair, "named", 0, "q", 1)
        pair.run(1)
        pair.named(2, "q", 10)
        pair.run(100)
        self.assertEqual(pair.view()[2], ("a list", "10", "7", "8", "9"))

    def test_refused_in_order(self):
        pair = Pair(TEXT)
        self.assert_refused(Idle, pair, "named", 7, "nope", 1)
        pair.begin("A", "go", (1,))
        for k in (1, -1, None, True, False, "0", 0.0, (0,), 10 ** 20):
            self.assert_refused(NoFrame, pair, "named", k, "nope", 1)
        for word in ("nope", "p", "", "self", "A", "@f", "f", "a b"):
            self.assert_refused(NoName, pair, "named", 0, word, 1)

    def test_no_deed(self):
        for pair in (Pair(TEXT), begun("a := 1")):
            for other in NO_TEXTS:
                self.assert_refused(NoDeed, pair, "named", 0, other, 1)
            for other in NO_WORTHS:
                self.assert_refused(NoDeed, pair, "named", 0, "a", other)
                self.assert_refused(NoDeed, pair, "named", None, "a", other)


class ForgetTest(SteadCase):
    def test_forget(self):
        pair = Pair(TEXT)
        self.assert_refused(Idle, pair, "forget")
        pair.begin("A", "go", (1,))
        pair.run(2)
        self.assertIsNone(pair.forget())
        self.assertEqual(pair.view(), ("idle", 2, (), None, None, (), ()))
        self.assert_refused(Idle, pair, "forget")
        pair.begin("A", "go", (1,))
        pair.run(100)
        ahead = pair.view()
        pair.forget()
        self.assertEqual(pair.view(), ("idle",) + ahead[1:])
        self.assertEqual(ahead[3], ("cell", 0))

    def test_a_fault(self):
        pair = begun("raise [ 1 ]")
        pair.run(1)
        pair.forget()
        self.assertEqual(pair.view(), ("idle", 1, (), None, None, (), ()))
        self.assert_refused(Idle, pair, "fault_place")
        self.assert_refused(Idle, pair, "forget")


class EditsTest(SteadCase):
    def test_loads(self):
        pair = Pair(TEXT)
        self.assertEqual(pair.load("b", "more A method to : end method on : end end"), (2, 3))
        self.assert_refused(NoWord, pair, "load", "b", "")
        self.assert_refused(Fault, pair, "load", "c", "more X end")
        self.assertEqual(pair.book.pages(), ("a", "b"))
        with self.assertRaises(Fault) as caught:
            pair.load("c", "\n more A method to : say x end end")
        told = caught.exception
        self.assertEqual((told.page, told.row, told.column, told.why), ("c", 2, 25, "name"))

    def test_many_versions(self):
        pair = Pair("kind A under Thing end", "more A " + " ".join("method m%d : end" % at for at in range(5)) + " end")
        text = "more A %s end" % " ".join("method m%d : end" % at for at in range(5))
        for at in range(39):
            pair.load("p" + "abcdefghijklmnopqrst"[at // 20] + "abcdefghijklmnopqrst"[at % 20], text)
        self.assert_refused(Many, pair, "load", "more", "more A method a : end end")

    def test_refusals_are_those_of_books(self):
        pair = Pair(TEXT)
        for error, deed, worths in (
            (NoKind, "gone", ("X", "to")), (NoMethod, "gone", ("B", "to")), (NoKind, "field", ("Thing", "x", 1)),
            (NoWord, "field", ("A", "end", 1)), (Clash, "field", ("A", "g", 1)), (NoKind, "lost", ("X", "f")),
            (NoField, "lost", ("B", "f")), (Used, "lost", ("A", "f")), (NoKind, "under", ("A", "X")), (Ring, "under", ("A", "B")),
        ):
            self.assert_refused(error, pair, deed, *worths)

    def test_things_are_led_over(self):
        pair = Pair(TEXT)
        pair.begin("B", "go", (5,))
        pair.run(1)
        pair.named(0, "b", None)
        ahead = pair.book.copy()
        paper = pair.field("A", "x", 7)
        self.assertEqual(paper, (("A", ("f",), ("f", "x"), 7), ("B", ("f", "g"), ("f", "x", "g"), 7)))
        self.assertIs(leads(ahead, pair.book, paper), True)
        self.assertEqual(pair.view()[6][0], ("thing", "B", (None, 7, None)))
        self.assertEqual(pair.lost("A", "x"), (("A", ("f", "x"), ("f",), None), ("B", ("f", "x", "g"), ("f", "g"), None)))
        self.assertEqual(pair.view()[6][0], ("thing", "B", (None, None)))
        self.assertEqual(pair.under("A", "C"), (("A", ("f",), ("c", "f"), None), ("B", ("f", "g"), ("c", "f", "g"), None)))
        self.assertEqual(pair.view()[6][0], ("thing", "B", (None, None, None)))
        self.assertEqual(pair.gone("A", "to"), ())

    def test_worths_stay_by_their_names(self):
        text = ("kind C under Thing field c end kind A under Thing field f field g\n"
                "method go : @f := 1 @g := [ self new B ] return self end end kind B under A field h end")
        pair = Pair(text)
        pair.begin("A", "go")
        pair.run(100)
        pair.gone("A", "go")
        pair.under("A", "C")
        self.assertEqual(pair.view()[6], (("thing", "A", (None, 1, ("cell", 1))), ("list", (("cell", 0), ("cell", 2))),
                                          ("thing", "B", (None, None, None, None))))
        pair.lost("A", "f")
        pair.field("A", "f", "new")
        self.assertEqual(pair.view()[6][0], ("thing", "A", (None, ("cell", 1), "new")))
        self.assertEqual(pair.view()[6][2], ("thing", "B", (None, None, "new", None)))
        pair.lost("A", "g")
        self.assertEqual(pair.view()[6], (("thing", "A", (None, "new")),))

    def test_full(self):
        pair = pair_with("x := [ 1 self new A ] x := none return [ self new A ]", fields="f", room=10,
                         more="kind C under Thing field c field d end kind E under Thing field e end")
        pair.begin("A", "go")
        pair.run(3)
        # A list of 3 and two things of 2 are left.
        self.assert_refused(Used, pair_with("say @f", fields="f"), "lost", "A", "f")
        self.assert_refused(Full, pair, "under", "A", "C")
        pair.field("A", "x", None)
        self.assert_refused(Full, pair, "field", "A", "y", None)
        self.assert_refused(Full, pair, "under", "A", "E")
        # Behind all refusals of books.
        self.assert_refused(Clash, pair, "field", "A", "x", None)
        self.assert_refused(NoWord, pair, "field", "A", "end", None)
        pair.under("A", "Thing")
        pair.lost("A", "f")
        pair.under("A", "E")
        self.assertEqual(pair.view()[6][1], ("thing", "A", (None, None)))

    def test_frames_and_blocks_keep_their_versions(self):
        pair = Pair(TEXT)
        pair.begin("A", "go", (5,))
        pair.run(2)
        pair.load("x", "more A method go a : end end")
        pair.gone("A", "to")
        self.assertEqual([frame[:2] for frame in pair.view()[5]], [(0, -1), (0, 1)])
        pair.run(1)
        self.assertEqual(pair.view()[2], ("5",))
        pair.load("y", "more A method to : say 'other end end")
        pair.run(100)
        self.assertEqual((pair.view()[2], pair.view()[6][0][:2]), (("5", "other"), ("block", 0)))

    def test_no_deed(self):
        pair = Pair(TEXT)
        for other in NO_TEXTS:
            for deed, worths in (("load", (other, "")), ("load", ("x", other)), ("gone", (other, "to")), ("gone", ("A", other)),
                                 ("field", (other, "x", 1)), ("field", ("A", other, 1)), ("lost", (other, "f")),
                                 ("lost", ("A", other)), ("under", (other, "A")), ("under", ("A", other))):
                self.assert_refused(NoDeed, pair, deed, *worths)
        for other in NO_WORTHS:
            self.assert_refused(NoDeed, pair, "field", "A", "x", other)
            self.assert_refused(NoDeed, pair, "field", "X", "end", other)


class WhereTest(SteadCase):
    def test_where(self):
        pair = Pair(TEXT)
        pair.begin("A", "go", (1,))
        self.assertEqual(pair.where(0), ("a", 3, 5))
        pair.run(3)
        self.assertEqual([pair.where(k) for k in range(2)], [("a", 4, 8), ("a", 3, 22)])
        pair.run(1)
        self.assertEqual([pair.where(k) for k in range(3)], [("a", 4, 8), ("a", 3, 25), ("a", 8, 5)])
        for k in (3, -1, None, "0", True, False, 0.0, (), [0], 10 ** 20):
            self.assert_refused(NoFrame, pair, "where", k)
        self.assert_refused(NoFrame, Pair(TEXT), "where", 0)

    def test_fault_place(self):
        pair = Pair("kind A under Thing method go :\n  do [\n  1 ( self to ) ] end end", "\nmore A method to :\n  return (\n1 / 0 ) end end")
        for _ in range(2):
            self.assert_refused(Idle, pair, "fault_place")
            pair.begin("A", "go")
            self.assert_refused(Idle, pair, "fault_place")
            pair.run(100)
            self.assertEqual(pair.fault_place(), ("b", 3, 10))
            pair.forget()


class DeedsTest(SteadCase):
    def test_each_deed_counts(self):
        pair = Pair(TEXT)
        deeds = (("begin", ("B", "go", (1,))), ("run", (1,)), ("again", (0,)), ("named", (0, "a", 2)), ("field", ("C", "x", 1)),
                 ("lost", ("C", "x")), ("under", ("C", "A")), ("sweep", ()), ("gone", ("A", "to")), ("load", ("b", "")), ("forget", ()))
        for at, (deed, worths) in enumerate(deeds):
            getattr(pair, deed)(*worths)
            self.assertEqual(len(pair), at + 2)
        self.assertEqual(pair.book.stamp(), 6)
        for act in ("view", "image", "places", "looked", "stops", "cells", "twin"):
            getattr(pair, act)()
        self.assertEqual(len(pair), 12)

    def test_worn(self):
        for stead in (Stead(), Stead(quick=True)):
            stead.load("a", TEXT)
            stead.begin("A", "go", (1,))
            for at in range(597):
                stead.run(0)
            self.assert_refused(NoDeed, stead, "run", -1)
            twin = stead.twin()
            stead.sweep()
            self.assertEqual((len(stead), len(twin)), (600, 599))
            for deed, worths in (("begin", ("A", "go", (1,))), ("run", (1,)), ("run", (-1,)), ("again", (0,)), ("again", (None,)),
                                 ("named", (0, "a", 2)), ("named", (0, None, 2)), ("forget", ()), ("load", ("b", "")),
                                 ("load", (1, 2)), ("gone", ("A", "to")), ("gone", (1, 2)), ("field", ("A", "x", 1)),
                                 ("field", ("X", "x", [])), ("lost", ("B", "g")), ("under", ("B", "A")), ("under", ("X", "A")),
                                 ("sweep", ()), ("begin", (1, 1, 1))):
                self.assert_refused(Worn, stead, deed, *worths)
            self.assertEqual(stead.where(0), ("a", 3, 5))
            twin.run(1)
            self.assert_refused(Worn, twin, "run", 1)
            self.assert_refused(Worn, stead.twin(), "run", 1)


class TwinTest(SteadCase):
    def test_a_twin_stands_alike_and_alone(self):
        for quick in (False, True):
            for turn in (0, 1):
                stead = Stead(quick=quick)
                stead.load("a", TEXT)
                stead.begin("B", "go", (5,))
                stead.run(4)
                changed, kept = (stead, stead.twin()) if turn else (stead.twin(), stead)
                self.assertIs(type(kept), Stead)
                self.assertTrue(changed == kept and not changed != kept)
                self.assertEqual((len(changed), changed.book.stamp()), (len(kept), kept.book.stamp()))
                ahead = everything(kept)
                changed.run(1)
                self.assertFalse(changed == kept)
                changed.field("A", "z", 1)
                changed.load("z", "kind Z under Thing end")
                changed.forget()
                self.assertEqual(everything(kept), ahead)

    def test_a_twin_goes_its_own_way_alike(self):
        pair = begun("while true then do ( self to ) end", more="more A method to : end end")
        pair.run(5)
        plain, quick = pair.plain.twin(), pair.quick.twin()
        for stead in (plain, quick):
            stead.run(10)
        self.assertEqual((plain.looked(), quick.looked(), plain.stops(), len(quick.stops())), (5, 1, (), 1))

    def test_equal(self):
        one, other = Stead(), Stead(quick=True)
        self.assertTrue(one == other)
        self.assertFalse(Stead(room=119) == one)
        self.assertFalse(Stead(deep=19) == one)
        one.load("a", TEXT)
        self.assertFalse(one == other)
        other.load("a", TEXT)
        self.assertTrue(one == other)
        # Deeds done aren't looked at.
        one.sweep()
        self.assertTrue(one == other and len(one) != len(other))
        one.begin("A", "go", (1,))
        other.begin("A", "go", (True,))
        self.assertFalse(one == other)
        for thing in (None, 0, "", (), [], one.image(), one.view(), one.book, object()):
            self.assertFalse(one == thing)
            self.assertTrue(one != thing)

    def test_kind_for_kind(self):
        steads = []
        for word in ("1", "true", "0", "false", "none", "'1", "'true"):
            stead = Stead()
            stead.load("a", "kind A under Thing method go a : return a end end")
            worth = {"1": 1, "true": True, "0": 0, "false": False, "none": None}.get(word, word[1:])
            stead.begin("A", "go", (worth,))
            steads.append(stead)
        for one, stead in enumerate(steads):
            self.assertEqual([stead == other for other in steads], [at == one for at in range(len(steads))])

    def test_kind_for_kind_at_each_place(self):
        """Wherever a worth can stand: true is not 1 and false not 0."""
        text = """kind A under Thing field f
          method go a : @f := a x := [ a ] y := [ a ( { b | say 1 say 2 } call a ) ] end
          method give a : return a end
          method fail a : raise a end
        end"""
        seen = {}
        for worth, other in ((0, False), (1, True), (False, 0), (True, 1)):
            stead = Stead()
            stead.load("a", text)
            for message, beats in (("give", 5), ("fail", 5), ("go", 4)):
                stead.begin("A", message, (worth,))
                stead.run(beats)
                image = stead.image()
                for path in paths(image[6]):
                    part = at_path(image[6], path)
                    if type(part) is type(worth) and part == worth:
                        self.check_another_worth(stead, bent(image, (6, *path), other), place_in_view(image[6], path), seen)
        # The last answer, the fault's worth, what frames were given and what waits in them, and worths in cells.
        self.assertEqual({place for place, many in seen.items() if many >= 4}, {3, 4, (5, 5), (5, 6), "thing", "list", "names"})

    def check_another_worth(self, stead, image, place, seen):
        try:
            other = read_image(image)
        except NoImage:
            return
        seen[place] = seen.get(place, 0) + 1
        self.assertEqual(stead.image(), image)
        self.assertFalse(other == stead or stead == other, image)
        self.assertTrue(other == other.twin())

    def test_books_with_numbers_and_truths(self):
        steads = []
        for word in ("1", "true", "0", "false", "none", "'1", "'true", "'none"):
            stead = Stead()
            stead.load("a", "kind A under Thing method go : return %s end end" % word)
            steads.append(stead)
        for one, stead in enumerate(steads):
            self.assertEqual([stead == other for other in steads], [at == one for at in range(len(steads))])

    def test_all_of_the_image_is_looked_at(self):
        page = "kind A under Thing field f method go : return self end end kind B under A end"
        book = stead_with(page)
        steads = [Stead(), book, stead_with(page, room=119), stead_with(page, deep=19), stead_with("", page)]
        for more in ("kind C under Thing end", "more A method go : return self end end", "more A method to : return self end end",
                     "more B method go : return self end end"):
            steads.append(stead_with(page, more))
        for text in (page.replace("self", " self"), page.replace("field f", "field g"), page.replace("field f", ""), page.replace("A", "Aa"),
                     "kind B under A end " + page.replace(" kind B under A end", ""),
                     page.replace("return self", "return none"), page.replace("return", "say"), page.replace("go", "to")):
            steads.append(stead_with(text))
        # Kinds in another order, all else alike.
        rows = "kind A under Thing method go : return self end end"
        steads += [stead_with("kind B under Thing end\n%s" % rows), stead_with("\n%s kind B under Thing end" % rows)]
        for deed in (("gone", "A", "go"), ("field", "B", "g", 1), ("lost", "A", "f"), ("under", "B", "Thing"), ("begin", "A", "go"),
                     ("begin", "B", "go")):
            stead = book.twin()
            getattr(stead, deed[0])(*deed[1:])
            steads.append(stead)
            if deed[0] == "begin":
                for _ in range(2):
                    stead = stead.twin()
                    stead.run(1) if stead.view()[0] == "paused" else stead.forget()
                    steads.append(stead)
        images = [repr(stead.image()) for stead in steads]
        self.assertEqual(len(set(images)), len(steads))
        for at, stead in enumerate(steads):
            self.assertEqual([stead == other for other in steads], [at == one for one in range(len(steads))])
            self.assertTrue(stead == stead.twin() == read_image(stead.image(), quick=True))


def stead_with(*texts, room=120, deep=20):
    """A stead with these pages, of which those without a text aren't loaded."""
    stead = Stead(room=room, deep=deep)
    for at, text in enumerate(texts):
        if text:
            stead.load("abcdefgh"[at], text)
    return stead


def place_in_view(view, path):
    """At what place of a view a path leads to a worth: of cells by their sort, of frames by the part."""
    if path[0] == 6:
        return view[6][path[1]][0]
    return (5, path[2]) if path[0] == 5 else path[0]


if __name__ == "__main__":
    unittest.main()
