"""Raising: [17]."""

import unittest

from tests.steads_help import Pair, SteadCase, begun, ended, raised, said


class RaisingTest(SteadCase):
    def test_each_kind_of_worth(self):
        for e, worth in (("5", 5), ("'no", "no"), ("true", True), ("none", None)):
            told = raised("raise " + e)
            self.assertEqual((told, type(told[0])), ((worth, 0, 0), type(worth)))
            self.assertEqual(ended("try raise %s taken e return e end" % e), worth)
        for e, what in (("[ 1 ]", "list"), ("self", "A"), ("{ | }", "block")):
            self.assertEqual(raised("raise " + e), (("cell", 0), 0, 0))
            self.assertEqual(ended("try raise %s taken e return ( e what ) end" % e), what)

    def test_out_of_all_frames(self):
        more = "kind B under Thing method to : do ( { | do ( self on ) } call ) end\nmethod on : raise [ self ] end end"
        pair = begun("do ( new B to )", more=more)
        pair.run(10)
        self.assertEqual(pair.view(), ("failed", 4, (), None, (("cell", 0), 2, 0), (),
                                       (("list", (("cell", 1),)), ("thing", "B", ()))))
        self.assertEqual(pair.fault_place(), ("a", 7, 13))

    def test_the_place_of_the_first_raise_stays(self):
        told = raised("try do ( 1 / 0 ) taken e raise e end")
        self.assertEqual(told, ("bynought", 0, 5))
        self.assertEqual(raised("do ( self to )", more="more A method to : do 1 do ( 2 / 0 ) end end"), ("bynought", 1, 3))

    def test_the_innermost_try_takes_it(self):
        self.assertEqual(said("try try raise 1 taken e say [ ] end say 2 taken e say 3 end say 4"), ("a list", "2", "4"))
        self.assertEqual(said("try try raise 1 taken e raise ( e + 1 ) end taken e say e end"), ("2",))
        self.assertEqual(said("try if true then while true then raise 7 end else end taken e say e end"), ("7",))

    def test_not_in_its_second_statements(self):
        self.assertEqual(raised("try raise 1 taken e raise 2 end"), (2, 0, 3))
        self.assertEqual(raised("try say 0 taken e end raise 2"), (2, 0, 3))

    def test_through_frames(self):
        more = ("more A method to : x := 1 do ( self on ) say 9 end\nmethod on : try do ( self at ) taken e raise ( e + 1 ) end end\n"
                "method at : raise 5 end end")
        self.assertEqual(said("try do [ 1 ( self to ) 2 ] taken e say e end say 3", more=more), ("6", "3"))

    def test_nothing_waits_in_the_frame_that_takes_it(self):
        more = "more A method to : raise 5 end end"
        pair = begun("try x := [ 1 2\n( 3 + ( self to ) ) ] taken e do ( { | say 1 } call ) end", more=more)
        pair.run(2)
        self.assertEqual(pair.view()[5][0][6], (1, 2, 3))
        pair.run(1)
        self.assertEqual([frame[6] for frame in pair.view()[5]], [()])
        pair.run(1)
        self.assertEqual([frame[6] for frame in pair.view()[5]], [(), ()])

    def test_a_try_around_a_block_is_none_within_it(self):
        # The block is called elsewhere; where it's made there is a try around it.
        self.assertEqual(raised("try b := { | raise 1 } taken e end do ( b call )"), (1, 0, 3))
        self.assertEqual(said("b := { | raise 1 } try do ( b call ) taken e say e end"), ("1",))
        self.assertEqual(said("try do ( { | raise 1 } call ) taken e say e end"), ("1",))
        self.assertEqual(said("do ( { | try raise 1 taken e say e end } call )"), ("1",))

    def test_a_try_in_a_block_within_a_try(self):
        text = "try do ( { | try raise 1 taken e say e raise 2 end } call ) taken f say f end"
        self.assertEqual(said(text), ("1", "2"))

    def test_the_tests_of_ifs_and_whiles_stand_in_a_try(self):
        self.assertEqual(said("try if ( 1 / 0 ) then else end taken e say e end"), ("bynought",))
        self.assertEqual(said("try while ( 1 / 0 ) then end taken e say e end"), ("bynought",))

    def test_the_name_that_takes_it(self):
        self.assertEqual(ended("a := 1 try raise 5 taken a end return a"), 5)
        self.assertEqual(ended("e := 1 do ( { e | try raise 5 taken e end } call 2 ) return e"), 1)
        self.assertEqual(ended("e := 1 do ( { | try raise 5 taken e end } call ) return e"), 5)

    def test_empty_second_statements(self):
        self.assertEqual(said("try raise 1 taken e end say e"), ("1",))
        self.assertEqual(ended("try raise 1 taken e end"), None)
        self.assertEqual(said("i := 0 while ( i < 2 ) then i := ( i + 1 ) try raise 1 taken e end end say i"), ("2",))

    def test_frames_further_in_are_over(self):
        more = "more A method to n : if ( n < 1 ) then raise 'deep else end do ( self to ( n - 1 ) ) end end"
        pair = begun("try do ( self to 5 ) taken e say e end say 2", more=more)
        pair.run(13)
        self.assertEqual(len(pair.view()[5]), 7)
        pair.run(1)
        self.assertEqual([frame[:3] for frame in pair.view()[5]], [(0, -1, 5)])

    def test_each_beat_of_a_failing_run(self):
        pair = begun("say 1 raise 2 say 3")
        self.assertEqual([pair.run(1), pair.view()[0], pair.run(1), pair.view()[0]], [1, "paused", 1, "failed"])
        pair = begun("say 1 raise 2 say 3")
        self.assertEqual(pair.run(2000), 2)

    def test_begin_fails_when_a_body_is_empty_of_beats(self):
        pair = Pair("kind A under Thing method go : return ( self to ) end method to : end end")
        pair.begin("A", "go")
        pair.run(1)
        self.assertEqual(pair.view()[:4], ("ended", 1, (), None))

    def test_the_last_answer_stays_when_a_run_fails(self):
        pair = begun("return self")
        pair.run(1)
        pair.load("b", "more A method no : raise self end end")
        pair.begin(None, "no")
        pair.run(1)
        self.assertEqual(pair.view(), ("failed", 2, (), ("cell", 0), (("cell", 0), 1, 0), (), (("thing", "A", ()),)))


if __name__ == "__main__":
    unittest.main()
