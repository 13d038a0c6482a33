"""Beats and what the nodes do: [13], [14], [15], and views of it: [20]."""

import unittest

from sendstead.errors import Clash
from tests.steads_help import Pair, SteadCase, begun, ended, raised, said


def frame_at(pair, k=-1):
    """Version, node and at of a frame."""
    return pair.view()[5][k][:3]


def beats_of(pair):
    """At which nodes the innermost frame stands ahead of each beat, up to the end."""
    told = []
    while pair.view()[0] == "paused":
        told.append(frame_at(pair)[2])
        assert pair.run(1) == 1
    return told


class StatementsTest(SteadCase):
    def test_a_new_stead(self):
        pair = Pair()
        self.assertEqual(pair.view(), ("idle", 0, (), None, None, (), ()))

    def test_begin_goes_ahead_of_the_first_beat(self):
        pair = begun("say 1", 5, parameters="a")
        self.assertEqual(pair.view(), ("paused", 0, (), None, None, ((0, -1, 0, ("cell", 0), ("cell", 1), (5,), ()),),
                                       (("thing", "A", ()), ("names", (5,), None))))

    def test_an_empty_body_answers_at_once(self):
        pair = begun("")
        self.assertEqual(pair.view(), ("ended", 0, (), None, None, (), ()))
        pair = begun("x := ( self to ) say x x := ( { | } call )", more="more A method to : end end")
        self.assertEqual(beats_of(pair), [0, 3, 5])
        self.assertEqual(pair.view()[1:3], (3, ("none",)))

    def test_names_and_parameters(self):
        pair = begun("b := a c := 2 a := 3", 1, parameters="a")
        worths = []
        while pair.view()[0] == "paused":
            worths.append(pair.view()[6][1])
            pair.run(1)
        self.assertEqual(worths, [("names", row, None) for row in ((1, None, None), (1, 1, None), (1, 1, 2))])

    def test_fields(self):
        pair = begun("@g := 5 @f := @g return ( @f + @g )", fields="f g")
        self.assertEqual(pair.view()[6][0], ("thing", "A", (None, None)))
        pair.run(1)
        self.assertEqual(pair.view()[6][0], ("thing", "A", (None, 5)))
        pair.run(1)
        self.assertEqual(pair.view()[6][0], ("thing", "A", (5, 5)))
        pair.run(1)
        self.assertEqual(pair.view()[:4], ("ended", 3, (), 10))

    def test_behind_the_last_statement_it_answers_none(self):
        self.assertIsNone(ended("x := 5 do x"))
        self.assertEqual(ended("return 5 return 6"), 5)
        self.assertEqual(ended("x := ( self to ) return [ x ]", more="more A method to : do 5 end end"), ("cell", 0))

    def test_if(self):
        for e, told in (("true", [0, 2, 6]), ("false", [0, 4, 6]), ("( 1 < 2 )", [0, 4, 8])):
            self.assertEqual(beats_of(begun("if %s then say 1 else say 2 end say 3" % e)), told)
        self.assertEqual(said("if true then say 1 else say 2 end say 3"), ("1", "3"))
        self.assertEqual(said("if false then say 1 else say 2 end say 3"), ("2", "3"))
        self.assertEqual(said("if false then say 1 else end say 3"), ("3",))
        self.assertEqual(beats_of(begun("if true then else end")), [0])

    def test_while(self):
        pair = begun("i := 0 while ( i < 2 ) then i := ( i + 1 ) end say i")
        self.assertEqual(beats_of(pair), [0, 2, 6, 2, 6, 2, 10])
        self.assertEqual(pair.view()[2], ("2",))
        self.assertEqual(beats_of(begun("while false then say 1 end")), [0])

    def test_an_empty_while_begins_anew_at_each_turn(self):
        pair = begun("while true then end")
        for beats in range(4):
            self.assertEqual((pair.view()[:2], frame_at(pair)), (("paused", beats), (0, -1, 0)))
            pair.run(1)
        self.assertEqual(pair.run(2000), 2000)

    def test_a_while_at_the_end_of_an_if_in_a_while(self):
        pair = begun("n := 0 while ( n < 2 ) then n := ( n + 1 )\n"
                     "if ( n < 2 ) then while ( n < 1 ) then end else try taken e end end end")
        self.assertEqual(beats_of(pair), [0, 2, 6, 10, 14, 2, 6, 10, 18, 2])

    def test_no_truths(self):
        for e in ("1", "0", "none", "'true", "[ ]", "self", "{ | }"):
            self.assertEqual(raised("say 0 if %s then say 1 else say 2 end" % e), ("notruth", 0, 2))
            self.assertEqual(raised("say 0 while %s then end" % e), ("notruth", 0, 2))
        self.assertEqual(said("try if 1 then else end taken e say e end"), ("notruth",))

    def test_try_without_a_raise(self):
        pair = begun("try say 1 taken e say 2 end say 3")
        self.assertEqual(beats_of(pair), [0, 1, 5])
        self.assertEqual(beats_of(begun("try taken e say 2 end say 3")), [0, 3])
        self.assertEqual(beats_of(begun("try taken e say 2 end")), [0])

    def test_return_within_others(self):
        self.assertEqual(ended("while true then if true then try return 7 taken e end else end end"), 7)


class ExpressionsTest(SteadCase):
    def test_plain_worths(self):
        for word, worth in (("0", 0), ("-5", -5), ("true", True), ("false", False), ("none", None), ("'", ""), ("'aB_1", "aB_1")):
            self.assertEqual(ended("return " + word), worth)
            self.assertIs(type(ended("return " + word)), type(worth))

    def test_from_the_left_to_the_right(self):
        more = "more A method to n w : say n return w end method on a b c : say 'on end end"
        text = "do ( ( self to 1 self ) on\n( self to 2 0 ) [ ( self to 3 0 ) ( self to 4 0 ) ] ( ( self to 5 7 ) + ( self to 6 8 ) ) )"
        self.assertEqual(said(text, more=more), ("1", "2", "3", "4", "5", "6", "on"))
        # What comes for the first ones is done ahead of the next ones.
        self.assertEqual(raised("do [ ( 1 / 0 ) ( 1 + none ) ]")[0], "bynought")
        self.assertEqual(raised("do ( ( 1 + none ) + ( 1 / 0 ) )")[0], "operand")

    def test_what_waits(self):
        more = "more A method to a : say a return a end end"
        pair = begun("x := ( 1 + [ 2\n( self to ( { b | say b return b } call 3 ) ) 4 ] )", more=more)
        pair.run(1)
        frames = pair.view()[5]
        self.assertEqual([frame[:3] for frame in frames], [(0, -1, 7), (0, 8, 9)])
        self.assertEqual([frame[5:] for frame in frames], [((), (1, 2, ("cell", 0))), ((3,), ())])
        pair.run(2)
        frames = pair.view()[5]
        self.assertEqual([frame[:3] for frame in frames], [(0, -1, 5), (1, -1, 0)])
        self.assertEqual([frame[5:] for frame in frames], [((), (1, 2)), ((3,), ())])
        pair.run(2)
        self.assertEqual(pair.view()[4], ("operand", 0, 1))

    def test_new(self):
        self.assertEqual(ended("return new B", more="kind B under A field b field c end", fields="a"), ("cell", 0))
        pair = begun("return [ new B new A new Thing ]", more="kind B under A field b field c end", fields="a")
        pair.run(1)
        self.assertEqual(pair.view()[6], (("list", (("cell", 1), ("cell", 2), ("cell", 3))), ("thing", "B", (None, None, None)),
                                          ("thing", "A", (None,)), ("thing", "Thing", ())))

    def test_lists(self):
        pair = begun("return [ 1 [ ] self 'a ]")
        pair.run(1)
        self.assertEqual(pair.view()[6], (("list", (1, ("cell", 1), ("cell", 2), "a")), ("list", ()), ("thing", "A", ())))

    def test_blocks(self):
        pair = begun("x := 4 return { b | say x }")
        pair.run(2)
        self.assertEqual(pair.view()[6], (("block", 0, 3, ("cell", 1), ("cell", 2)), ("thing", "A", ()), ("names", (4,), None)))
        pair = begun("do ( { a | do ( { b | say [ a b ] } call 2 ) } call 1 )")
        pair.run(2)
        frames, cells = pair.view()[5:]
        self.assertEqual([frame[:3] for frame in frames], [(0, -1, 1), (0, 2, 4), (0, 5, 6)])
        self.assertEqual(cells[frames[2][4][1]], ("names", (2,), frames[1][4]))
        self.assertEqual(cells[frames[1][4][1]], ("names", (1,), frames[0][4]))
        self.assertEqual(cells[frames[0][4][1]], ("names", (), None))

    def test_a_name_of_a_block_hides_one_of_the_method(self):
        self.assertEqual(said("a := 1 do ( { a | a := 5 say a } call 2 ) say a"), ("5", "1"))

    def test_return_in_a_block_ends_the_block_alone(self):
        self.assertEqual(said("do ( { | return 1 say 2 } call ) say 3"), ("3",))


class UpTest(SteadCase):
    MORE = ("more A method to n : return [ 'A n ] end end kind B under A method to n : return ( up to ( n + 1 ) ) end end\n"
            "kind C under B method to n : return ( up to ( n * 10 ) ) end end kind D under C end")

    def pair(self):
        pair = Pair("kind A under Thing end", in_rows(self.MORE))
        return pair

    def test_found_from_the_parent_of_the_versions_kind(self):
        for kind, worth in (("A", 2), ("B", 3), ("C", 21), ("D", 21)):
            pair = self.pair()
            pair.begin(kind, "to", (2,))
            pair.run(10)
            self.assertEqual(pair.view()[6], (("list", ("A", worth)),))

    def test_self_stays(self):
        pair = Pair("kind A under Thing method to : return self end end\nkind B under A method to : return ( up to ) end end")
        pair.begin("B", "to")
        pair.run(2)
        self.assertEqual(pair.view()[6], (("thing", "B", ()),))

    def test_the_parent_as_it_is_now(self):
        pair = self.pair()
        pair.load("x", "kind E under Thing method to n : return n end end")
        pair.begin("D", "to", (2,))
        pair.run(1)
        pair.under("B", "E")
        pair.run(10)
        self.assertEqual(pair.view()[:4], ("ended", 3, (), 21))

    def test_the_kind_of_the_version_not_of_self(self):
        pair = self.pair()
        pair.begin("C", "to", (2,))
        # The frame's version stays one of C, wherever D is.
        pair.under("C", "A")
        pair.run(1)
        self.assertEqual([frame[:2] for frame in pair.view()[5]], [(2, -1), (0, -1)])

    def test_thing_finds_nothing(self):
        self.assertEqual(raised("do ( up go )"), ("nomethod", 0, 1))
        self.assertEqual(raised("do ( up what )"), ("nomethod", 0, 1))
        pair = self.pair()
        pair.begin("B", "to", (2,))
        pair.under("B", "Thing")
        pair.run(1)
        self.assertEqual(pair.view()[4], ("nomethod", 1, 1))

    def test_up_in_a_block(self):
        pair = Pair("kind A under Thing method to : return 'up end end\n"
                    "kind B under A method to : return { | return ( up to ) } end end\n"
                    "kind C under Thing method go : return ( ( new B to ) call ) end end")
        pair.begin("C", "go")
        pair.run(10)
        self.assertEqual(pair.view()[3], "up")

    def test_count_and_deep(self):
        pair = self.pair()
        pair.load("x", "more A method to : end end")
        pair.begin("B", "to", (2,))
        pair.run(1)
        self.assertEqual(pair.view()[4], ("count", 1, 1))


def in_rows(text):
    return text.replace(" kind ", "\nkind ").replace(" end end", "\nend end")


class NoFieldTest(SteadCase):
    TEXT = ("kind A under Thing field f method go : say @f @f := 1 say @f end\n"
            "method to : try @f := 2 taken e say e end try say @f taken e say e end end end")

    def begun_without(self, message):
        """A run whose method names a field that its kind hasn't any more."""
        pair = Pair(self.TEXT)
        pair.begin("A", message)
        pair.gone("A", "go")
        pair.gone("A", "to")
        pair.lost("A", "f")
        return pair

    def test_named(self):
        pair = self.begun_without("go")
        pair.run(1)
        self.assertEqual(pair.view()[4], ("nofield", 0, 1))
        self.assertEqual(pair.fault_place(), ("a", 1, 44))

    def test_set(self):
        pair = Pair(self.TEXT)
        pair.begin("A", "go")
        pair.run(1)
        for message in ("go", "to"):
            pair.gone("A", message)
        pair.lost("A", "f")
        pair.run(1)
        self.assertEqual(pair.view()[4], ("nofield", 0, 2))

    def test_taken(self):
        pair = self.begun_without("to")
        pair.run(10)
        self.assertEqual(pair.view()[2], ("nofield", "nofield"))

    def test_another_field_of_that_name(self):
        pair = self.begun_without("go")
        pair.field("A", "g", 1)
        pair.field("A", "f", 2)
        pair.run(3)
        self.assertEqual(pair.view()[2], ("2", "1"))

    def test_the_e_is_worked_out_ahead(self):
        pair = Pair("kind A under Thing field f method go : @f := ( 1 / 0 ) end end")
        pair.begin("A", "go")
        pair.gone("A", "go")
        pair.lost("A", "f")
        pair.run(1)
        self.assertEqual(pair.view()[4], ("bynought", 0, 1))

    def test_a_clash_is_refused_while_it_runs(self):
        pair = Pair(self.TEXT)
        pair.begin("A", "go")
        self.assert_refused(Clash, pair, "field", "A", "f", 0)


class FramesTest(SteadCase):
    def test_methods_call_methods(self):
        text = ("kind A under Thing method go n : if ( n < 1 ) then return 0 else end\n"
                "return ( n + ( self go ( n - 1 ) ) ) end end")
        pair = Pair(text)
        pair.begin("A", "go", (3,))
        pair.run(7)
        self.assertEqual([frame[2] for frame in pair.view()[5]], [9, 9, 9, 4])
        self.assertEqual([frame[5:] for frame in pair.view()[5]], [((3,), (3,)), ((2,), (2,)), ((1,), (1,)), ((0,), ())])
        pair.run(7)
        self.assertEqual(pair.view()[:4], ("ended", 8, (), 6))

    def test_deep(self):
        text = "kind A under Thing method go n : try do ( self go ( n + 1 ) ) taken e return [ e n ] end end end"
        for deep in (1, 2, 7, 40):
            pair = Pair(text, deep=deep, room=400)
            pair.begin("A", "go", (1,))
            pair.run(2000)
            self.assertEqual(pair.view()[0], "ended")
            # The outermost one answers what its own try took, or nothing.
            self.assertEqual(pair.view()[1], 2 * deep + 1)
        pair = Pair("kind A under Thing method go : do ( self go ) end end", deep=3)
        pair.begin("A", "go")
        pair.run(2000)
        self.assertEqual((pair.view()[1], pair.view()[4]), (3, ("deep", 0, 1)))

    def test_beats_are_those_of_all_runs(self):
        pair = begun("say 1 say 2")
        pair.run(5)
        pair.begin("A", "go")
        self.assertEqual(pair.run(1), 1)
        self.assertEqual(pair.view()[:3], ("paused", 3, ("1",)))
        pair.forget()
        pair.begin("A", "go")
        self.assertEqual(pair.view()[:3], ("paused", 3, ()))


if __name__ == "__main__":
    unittest.main()
