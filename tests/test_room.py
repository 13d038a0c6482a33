"""What is said, room, views and sweeps: [18], [19], [20], and the sweeps of steads: [30]."""

import random
import unittest

from sendstead.errors import Full
from sendstead.sweeps import sweep_stands
from tests.steads_help import Pair, SteadCase, begun, ended, pair_with, raised, said


def cell(number):
    return ("cell", number)


class SaidTest(SteadCase):
    def test_each_kind_of_worth(self):
        es = "5 -5 0 999999999999 'ab_C9 ' none true false self [ ] new Thing"
        text = "\n".join("say " + e for e in es.replace("[ ]", "[").replace("new Thing", "new_").split())
        text = text.replace("say [", "say [ 1 ]").replace("new_", "new Thing") + "\nsay { | }"
        self.assertEqual(said(text), ("5", "-5", "0", "999999999999", "ab_C9", "", "none", "true", "false", "a A", "a list",
                                      "a Thing", "a block"))

    def test_at_most_200(self):
        loop = "i := 0 while ( i < %d ) then i := ( i + 1 ) say i end %s"
        self.assertEqual(said(loop % (200, "")), tuple(str(at) for at in range(1, 201)))
        self.assertEqual(raised(loop % (200, "say 7")), ("long", 0, 12))
        self.assertEqual(ended(loop % (200, "try say 7 taken e return e end")), "long")

    def test_a_run_that_begins_has_said_nothing(self):
        pair = begun("say 1 return self")
        pair.run(2)
        self.assertEqual(pair.view()[2], ("1",))
        pair.begin(None, "go")
        self.assertEqual(pair.view()[2], ())
        pair.run(1)
        pair.forget()
        self.assertEqual(pair.view()[2], ("1",))


class FullTest(SteadCase):
    def fits(self, statements, room, **more):
        """The statements end in just so much room, and raise 'full in one less, if the run can begin there."""
        for extra in (0, 1, 50):
            pair = begun(statements, room=room + extra, **more)
            pair.run(2000)
            self.assertEqual(pair.view()[0], "ended", pair.view())
        pair = begun(statements, room=room - 1, **more)
        pair.run(2000)
        self.assertEqual(pair.view()[4][0], "full", pair.view())

    def test_new(self):
        # self weighs 1 and 1 for its field.
        self.fits("@f := new A", 4, fields="f")
        self.fits("@f := new Thing", 3, fields="f")
        self.fits("@f := new B", 6, fields="f", more="kind B under A field g field h end")
        self.fits("do new A", 4, fields="f")

    def test_lists(self):
        self.fits("@f := [ ]", 3, fields="f")
        self.fits("@f := [ 1 2 3 ]", 6, fields="f")
        self.fits("@f := [ [ 1 ] [ 2 ] ]", 2 + 2 + 2 + 3, fields="f")
        self.fits("@f := [ [ ] self [ ] ]", 2 + 1 + 1 + 4, fields="f")

    def test_blocks_weigh_1(self):
        self.fits("x := { | }", 2)
        self.fits("x := [ { | } { a b c | return [ a b ] } ]", 1 + 1 + 1 + 3)

    def test_add(self):
        self.fits("x := [ ] do ( x add 1 ) do ( x add 2 )", 4)
        # What is added and added to can be reached, though it waits no more.
        self.fits("do ( [ 1 2 ] add [ 3 ] )", 1 + 3 + 2 + 1)
        self.fits("do ( [ ] add new B )", 1 + 1 + 3 + 1, more="kind B under A field g field h end")

    def test_pop_and_put(self):
        self.fits("x := [ 1 2 ] do ( x pop ) do ( x add 1 ) do ( x pop ) do ( x pop ) y := [ 1 ]", 4)
        self.fits("x := [ [ 1 ] ] do ( x put 0 none ) y := [ ]", 1 + 2 + 2)

    def test_what_cannot_be_reached_weighs_nothing(self):
        self.fits("i := 0 while ( i < 50 ) then i := ( i + 1 ) x := [ i i ] end", 1 + 3 + 3)
        self.fits("i := 0 while ( i < 50 ) then i := ( i + 1 ) do [ i ] end", 1 + 2)
        self.fits("x := [ none ] do ( x put 0 x ) x := none y := [ 1 2 3 ]", 1 + 4)

    def test_waiting_worths(self):
        self.fits("do [ [ 1 ] ( [ 1 2 3 ] size ) ]", 1 + 2 + 4)
        self.fits("do ( [ [ ] ] = [ 1 ] )", 1 + 1 + 2 + 2)

    def test_given_worths_weigh_as_long_as_the_frame_is_there(self):
        more = "more A method to x : x := none x := [ 1 ] end end"
        self.fits("do ( self to [ 1 2 3 ] ) y := [ 1 2 3 ]", 1 + 4 + 2, more=more)
        more = "more A method to x : x := none return none end end"
        self.fits("do ( self to [ 1 2 3 ] ) y := [ 1 2 3 ]", 1 + 4, more=more)

    def test_surroundings_weigh_what_they_lead_to(self):
        more = "more A method to : x := [ 1 2 3 ] return { | return x } end end"
        self.fits("b := ( self to ) c := [ ]", 1 + 4 + 1 + 1, more=more)
        # Neither frames nor surroundings weigh by themselves.
        more = "more A method to n : if ( n < 1 ) then return 0 else end do ( self to ( n - 1 ) ) end end"
        pair = begun("do ( self to 30 )", more=more, room=1, deep=40)
        pair.run(2000)
        self.assertEqual(pair.view()[0], "ended")

    def test_blocks_keep_all_that_their_frames_know(self):
        self.fits("b := none x := [ 1 2 ] b := { | } x := none y := [ 1 2 3 ]", 1 + 1 + 4)
        more = "more A method to : x := [ 1 2 ] y := { | return x } return y end end"
        self.fits("b := ( self to ) x := [ 1 ]", 1 + 1 + 3 + 2, more=more)

    def test_the_last_answer(self):
        pair = pair_with("return [ 1 2 3 ]", room=9, more="more A method to : x := [ 1 2 3 ] end method on : x := [ 1 2 3 4 ] end end")
        pair.begin("A", "go")
        pair.run(1)
        pair.begin("A", "to")
        pair.run(1)
        self.assertEqual(pair.view()[0], "ended")
        pair.begin("A", "go")
        pair.run(1)
        pair.begin("A", "on")
        pair.run(1)
        self.assertEqual(pair.view()[4][0], "full")
        self.assertEqual(pair.view()[3], cell(0))

    def test_full_is_taken(self):
        self.assertEqual(ended("x := [ 1 2 3 ] try y := [ 1 2 ] taken e return e end", room=7), "full")
        self.assertEqual(raised("x := [ 1 2 3 ] y := [ 1 2 ]", room=7), ("full", 0, 6))
        self.assertEqual(raised("x := [ 1 2 3 ] do { | }", room=5), ("full", 0, 6))
        self.assertEqual(raised("x := [ 1 2 3 ] do ( x add 4 )", room=5), ("full", 0, 6))
        self.assertEqual(raised("x := [ 1 2 3 ] do new A", room=5), ("full", 0, 6))

    def test_a_thing_that_a_run_begins_with(self):
        pair = pair_with("return self", fields="a b", room=3)
        pair.begin("A", "go")
        pair.run(1)
        self.assert_refused(Full, pair, "begin", "A", "go")
        pair.begin(None, "go")
        pair.forget()
        self.assert_refused(Full, pair, "begin", "A", "go")
        self.assert_refused(Full, pair_with("", fields="a b", room=2), "begin", "A", "go")

    def test_a_forgotten_fault_weighs_nothing(self):
        pair = pair_with("raise [ 1 2 3 4 ]", room=6)
        pair.begin("A", "go")
        pair.run(1)
        self.assertEqual(pair.view()[0], "failed")
        pair.begin("A", "go")
        pair.run(1)
        self.assertEqual(pair.view()[4], (cell(0), 0, 0))


class ViewTest(SteadCase):
    def test_numbers(self):
        text = ("x := [ 1 self ] y := { a | return [ a x ] }\n"
                "do [ [ ] ( y call new B ) ]")
        pair = begun(text, more="kind B under A field g end", fields="f")
        pair.run(3)
        self.assertEqual(pair.view()[5], (
            (0, -1, 13, cell(0), cell(1), (), (cell(2),)), (0, 5, 6, cell(0), cell(3), (cell(4),), ())))
        self.assertEqual(pair.view()[6], (
            ("thing", "A", (None,)), ("names", (cell(5), cell(6)), None), ("list", ()), ("names", (cell(4),), cell(1)),
            ("thing", "B", (None, None)), ("list", (1, cell(0))), ("block", 0, 5, cell(0), cell(1))))

    def test_last_then_fault_then_frames(self):
        pair = pair_with("return [ self ]", more="more A method to : raise [ 1 self ] end method on : x := [ ] say 1 end end")
        pair.begin("A", "go")
        pair.run(1)
        self.assertEqual(pair.view()[3:], (cell(0), None, (), (("list", (cell(1),)), ("thing", "A", ()))))
        pair.begin("A", "to")
        pair.run(1)
        self.assertEqual(pair.view()[3:], (cell(0), (cell(1), 1, 0), (), (
            ("list", (cell(2),)), ("list", (1, cell(3))), ("thing", "A", ()), ("thing", "A", ()))))
        pair.begin("A", "on")
        pair.run(1)
        self.assertEqual(pair.view()[3:], (cell(0), None, ((2, -1, 2, cell(1), cell(2), (), ()),), (
            ("list", (cell(3),)), ("thing", "A", ()), ("names", (cell(4),), None), ("thing", "A", ()), ("list", ()))))

    def test_each_cell_once_in_rings(self):
        pair = begun("x := [ 1 2 ] do ( x put 0 x ) do ( x put 1 self ) @f := x return x", fields="f")
        pair.run(5)
        self.assertEqual(pair.view()[6], (("list", (cell(0), cell(1))), ("thing", "A", (cell(0),))))

    def test_by_breadth(self):
        pair = begun("return [ [ [ 1 ] 2 ] [ [ 3 ] 4 ] ]")
        pair.run(1)
        self.assertEqual(pair.view()[6], (("list", (cell(1), cell(2))), ("list", (cell(3), 2)), ("list", (cell(4), 4)),
                                          ("list", (1,)), ("list", (3,))))


class SweepsOfSteadsTest(SteadCase):
    TEXT = ("kind A under Thing field f method go n : @f := [ n ] b := { a | say a @f := [ b self a ] }\n"
            "while ( n < 9 ) then n := ( n + 1 ) do [ n ] x := [ n ( b call n ) ] end return { | return x } end\n"
            "method to : raise [ self ] end end")

    def test_a_new_stead_has_no_cells(self):
        pair = Pair(self.TEXT)
        self.assertEqual(pair.cells(), ())
        for stead in (pair.plain, pair.quick):
            self.assertEqual(stead.twin().sweep(), ((), (), (), ()))

    def test_at_each_beat(self):
        for message, worths in (("go", (5,)), ("to", ())):
            pair = Pair(self.TEXT)
            pair.begin("A", message, worths)
            for _ in range(40):
                for stead in (pair.plain, pair.quick):
                    self.check(stead.twin())
                    self.check(stead)
                pair.check()
                if pair.view()[0] == "paused":
                    pair.run(1)

    def check(self, stead):
        """A sweep moves just what can be reached, which nobody sees."""
        cells, view = stead.cells(), stead.view()
        before, roots, moves, behind = stead.sweep()
        self.assertEqual(before, cells)
        self.assertIs(sweep_stands((before, roots, moves, behind)), True)
        self.assertEqual((stead.view(), stead.cells()), (view, behind))
        self.assertEqual((len(moves), len(behind)), (len(view[6]), len(view[6])))
        held, places = dict(behind), dict(moves)
        # The roots are where the frames are, and the last answer and the fault.
        last, fault, frames = view[3:6]
        worths = [last] + [fault[0] for fault in [fault] if fault]
        for frame in frames:
            worths += [frame[3], frame[4], *frame[5], *frame[6]]
        numbers = {worth[1] for worth in worths if isinstance(worth, tuple)}
        self.assertEqual(len(roots), len(numbers))
        told = sorted(repr(without_cells(view[6][number])) for number in numbers)
        self.assertEqual(sorted(repr(without_cells(held[places[root]])) for root in roots), told)

    def test_what_cannot_be_reached_goes(self):
        pair = begun("x := [ 1 2 3 ] x := none say x")
        pair.run(2)
        for stead in (pair.plain, pair.quick):
            before, _, moves, behind = stead.sweep()
            self.assertIn(("list", (1, 2, 3)), [told for _, told in before])
            self.assertNotIn(("list", (1, 2, 3)), [told for _, told in behind])
            self.assertEqual(len(moves), 2)
            self.assertEqual(stead.sweep()[0], behind)

    def test_long_runs_leave_few_cells(self):
        # A method without statements is begun at no beat, and its surroundings weigh nothing.
        text = "i := 0 while ( i < 50000 ) then i := ( i + 1 )\ndo [ ( self to ) ( self to ) ( self to ) ( self to ) ] end"
        pair = begun(text, more="more A method to : end end", room=400)
        for _ in range(5):
            pair.run(2000)
            self.assertLess(max(len(pair.plain.cells()), len(pair.quick.cells())), 2000)

    def test_made_up_runs_with_sweeps(self):
        chance = random.Random(4)
        for _ in range(30):
            pair, other = Pair(self.TEXT), Pair(self.TEXT)
            for stead in (pair, other):
                stead.begin("A", "go", (3,))
            for _ in range(15):
                beats = chance.randrange(4)
                if pair.view()[0] == "paused":
                    self.assertEqual(pair.run(beats), other.run(beats))
                if chance.random() < 0.5:
                    pair.sweep()
                self.assertEqual(pair.view(), other.view())


def without_cells(told):
    """A cell with all cells in it left out."""
    if isinstance(told, tuple):
        return "cell" if told[:1] == ("cell",) else tuple(without_cells(part) for part in told)
    return told


if __name__ == "__main__":
    unittest.main()
