"""Quick places, what is looked up, and stops: [23], [24], and the judges of their papers: [31], [32]."""

import unittest

from sendstead.images import read_image
from sendstead.places import all_rows, place_stands, stops_stand
from sendstead.rows import rows_of
from sendstead.steads import Stead
from sendstead.trees import codes_of
from tests.steads_help import Pair, SteadCase, begun, pair_with

NOT_NUMBERS = (None, True, False, "0", "", (), [], {}, 0.0, b"0", (0,), ("cell", 0), -1, -100, 10 ** 12)


def rows_with(pair, version, *words):
    """The numbers of a version's rows that have these words."""
    rows = all_rows(pair.book.version_of(version)[3])
    return [number for number, (_, row) in enumerate(rows) if row[1:1 + len(words)] == words]


class AllRowsTest(unittest.TestCase):
    def test_code_by_code(self):
        pair = pair_with("x := { | do { | say 1 } } do { a | } say x")
        tree = pair.book.version_of(0)[3]
        told = []
        for node in codes_of(tree):
            told += [(node, row) for row in rows_of(tree, node)]
        self.assertEqual(all_rows(tree), tuple(told))
        self.assertEqual(sorted({node for node, _ in all_rows(tree)}), [-1, 1, 3, 7])


class PlacesTest(SteadCase):
    MORE = "more A method to : return 1 end end kind B under A end\nkind C under A method to : return 2 end end"

    def test_a_send_remembers(self):
        pair = begun("i := 0 while ( i < 3 ) then i := ( i + 1 ) do ( self to ) end", more=self.MORE)
        self.assertEqual(pair.places(), ())
        (row,) = rows_with(pair, 0, "send", "to")
        for beats, looked in ((4, (1, 1)), (5, (2, 1)), (5, (3, 1))):
            pair.run(beats)
            self.assertEqual((pair.plain.looked(), pair.quick.looked()), looked)
            self.assertEqual(pair.quick.places(), ((0, row, "A", 1),))
            self.assertEqual(pair.plain.places(), ())

    def test_the_kind_found_last(self):
        more = self.MORE + "\nkind D under Thing method to : return 3 end end"
        text = ("l := [ new A new B new C new D new A new A ]\ni := 0 while ( i < 6 ) then\n"
                "do ( ( l at i ) to ) i := ( i + 1 ) end")
        pair = begun(text, more=more)
        (row,) = rows_with(pair, 0, "send", "to")
        pair.run(2)
        seen = []
        for _ in range(6):
            pair.run(4)
            seen.append((pair.quick.places(), pair.quick.looked(), pair.plain.looked()))
        told = [("A", 1, 1), ("B", 1, 2), ("C", 2, 3), ("D", 3, 4), ("A", 1, 5), ("A", 1, 5)]
        self.assertEqual(seen, [(((0, row, kind, version),), looked, at + 1) for at, (kind, version, looked) in enumerate(told)])

    def test_what_is_not_found_is_not_remembered(self):
        more = "more A method to : end end kind D under Thing end"
        text = ("l := [ new A new D new D new A ]\ni := 0 while ( i < 4 ) then\n"
                "try do ( ( l at i ) to ) taken e end i := ( i + 1 ) end")
        pair = begun(text, more=more)
        pair.run(2000)
        (row,) = rows_with(pair, 0, "send", "to")
        # The place still knows A behind two looks that found nothing.
        self.assertEqual((pair.quick.places(), pair.quick.looked(), pair.plain.looked()), (((0, row, "A", 1),), 3, 4))

    def test_sends_that_worths_answer_are_looked_up_too(self):
        pair = begun("i := 0 while ( i < 3 ) then i := ( i + 1 ) do ( self what ) do ( new Thing = 1 ) end")
        pair.run(2000)
        self.assertEqual((pair.plain.looked(), pair.quick.looked(), pair.quick.places()), (6, 6, ()))

    def test_count_and_deep(self):
        more = "more A method to a : end end"
        pair = begun("try do ( self to ) taken e end try do ( self to ) taken e end say e", more=more)
        pair.run(2000)
        one, other = rows_with(pair, 0, "send", "to")
        self.assertEqual(pair.quick.places(), ((0, one, "A", 1), (0, other, "A", 1)))
        pair = begun("i := 0 while ( i < 3 ) then i := ( i + 1 ) try do ( self to 1 ) taken e say e end end", more=more, deep=1)
        pair.run(2000)
        self.assertEqual(pair.view()[2], ("deep",) * 3)
        (row,) = rows_with(pair, 0, "send", "to")
        self.assertEqual((pair.quick.places(), pair.quick.looked(), pair.plain.looked()), (((0, row, "A", 1),), 1, 3))

    def test_up(self):
        text = ("kind A under Thing method to : return 1 end end\nkind B under A method to : return ( up to ) end end\n"
                "kind C under B method to : return 2 end end\n"
                "kind D under Thing method go : l := [ new B new B ] do ( ( l at 0 ) to )\ndo ( ( l at 1 ) to ) end\n"
                "method on : try do ( up to ) taken e end try do ( up to ) taken e end end end")
        pair = Pair(text)
        pair.begin("D", "go")
        pair.run(2000)
        (row,) = rows_with(pair, 1, "up")
        self.assertIn((1, row, "A", 0), pair.quick.places())
        self.assertEqual((pair.quick.looked(), pair.plain.looked()), (3, 4))
        # Where the parent is Thing it is looked up each time, and nothing remembered.
        pair.begin("D", "on")
        pair.run(2000)
        self.assertEqual((pair.quick.looked(), pair.plain.looked()), (5, 6))
        self.assertEqual(len(pair.quick.places()), 3)

    def test_fields(self):
        text = ("kind A under Thing field f field g method go : i := 0 while ( i < 2 ) then\n"
                "@g := [ @f @g ] i := ( i + 1 ) end do ( { | @f := @g } call ) end end\nkind B under A field h end")
        for kind in ("A", "B"):
            pair = Pair(text)
            pair.begin(kind, "go")
            pair.run(2000)
            rows = [rows_with(pair, 0, *words) for words in (("field", "f"), ("field", "g"), ("setfield", "g"), ("setfield", "f"))]
            told = [(0, row, kind, 0) for row in rows[0] + rows[3]] + [(0, row, kind, 1) for row in rows[1] + rows[2]]
            self.assertEqual(pair.quick.places(), tuple(sorted(told)))
            self.assertEqual(len(told), 5)
            self.assertEqual((pair.quick.looked(), pair.plain.looked()), (0, 0))

    def test_the_kind_of_self_changes(self):
        text = ("kind Z under Thing field z end kind A under Thing field f method to : return @f end end\nkind B under A end\n"
                "kind D under Thing method go : do ( new A to ) do ( new B to ) end end")
        pair = Pair(text)
        pair.begin("D", "go")
        pair.run(2)
        (row,) = rows_with(pair, 0, "field")
        self.assertIn((0, row, "A", 0), pair.quick.places())
        pair.run(3)
        self.assertIn((0, row, "B", 0), pair.quick.places())

    def test_begin_and_again_are_not_counted(self):
        pair = begun("say 1")
        pair.again(0)
        self.assertEqual((pair.quick.looked(), pair.plain.looked(), pair.quick.places()), (0, 0, ()))

    def test_by_version_and_row(self):
        pair = begun("do ( self to ) do ( self to )", more="more A method to : return ( self on ) end method on : end end")
        pair.run(2000)
        places = pair.quick.places()
        self.assertEqual(list(places), sorted(places))
        self.assertEqual([place[0] for place in places], [0, 0, 1])


class ForgettingTest(SteadCase):
    def pair(self):
        pair = begun("while true then do ( self to ) @f := @f end", fields="f", more="more A method to : end end kind B under A end")
        pair.run(3)
        self.assertEqual(len(pair.quick.places()), 3)
        return pair

    def test_loads_and_edits(self):
        for deed, worths in (("load", ("x", "")), ("load", ("x", "more A method to : return 1 end end")), ("gone", ("A", "to")),
                             ("field", ("B", "x", 1)), ("under", ("B", "A")), ("under", ("B", "Thing"))):
            pair = self.pair()
            looked = pair.quick.looked(), pair.plain.looked()
            getattr(pair, deed)(*worths)
            self.assertEqual((pair.quick.places(), pair.plain.places()), ((), ()), deed)
            self.assertEqual((pair.quick.looked(), pair.plain.looked()), looked)
        pair = self.pair()
        pair.field("B", "x", 1)
        pair.run(3)
        self.assertEqual(len(pair.quick.places()), 3)
        pair.lost("B", "x")
        self.assertEqual(pair.quick.places(), ())

    def test_what_is_found_then(self):
        pair = self.pair()
        pair.load("x", "more A method to : raise 'new end end")
        pair.run(3)
        self.assertEqual(pair.view()[4], ("new", 2, 0))
        pair = self.pair()
        pair.gone("A", "to")
        pair.run(2)
        self.assertEqual(pair.view()[4][0], "nomethod")

    def test_a_refused_deed_lets_them_be(self):
        pair = self.pair()
        for deed, worths in (("load", ("a", "")), ("load", ("x", "kind")), ("gone", ("A", "zz")), ("field", ("A", "f", 1)),
                             ("lost", ("A", "f")), ("under", ("A", "B"))):
            with self.assertRaises(ValueError):
                getattr(pair, deed)(*worths)
            self.assertEqual(len(pair.quick.places()), 3)

    def test_other_deeds_let_them_be(self):
        pair = self.pair()
        pair.sweep()
        pair.again(0)
        pair.forget()
        pair.begin("A", "go")
        self.assertEqual(len(pair.quick.places()), 3)

    def test_twins_and_images(self):
        pair = self.pair()
        for other in (pair.quick.twin(), read_image(pair.image(), quick=True), read_image(pair.image())):
            self.assertEqual((other.places(), other.looked()), ((), 0))
        self.assertEqual((len(pair.quick.places()), pair.quick.looked(), pair.plain.looked()), (3, 1, 1))


class PlacesJudgeTest(SteadCase):
    TEXT = ("kind A under Thing field f field g method to : return [ 1 @g ] end end\n"
            "kind B under A field h method to : return { | @f := ( up to ) } end end\n"
            "kind C under B method on : do ( self to ) end end")

    def papers(self):
        pair = Pair(self.TEXT)
        (field,), (setfield,), (up,) = rows_with(pair, 0, "field"), rows_with(pair, 1, "setfield"), rows_with(pair, 1, "up")
        (send,) = rows_with(pair, 2, "send")
        return pair, ((0, field, "A", 1), (1, setfield, "B", 0), (1, up, "A", 0), (2, send, "B", 1))

    def test_let_by(self):
        pair, papers = self.papers()
        for paper in papers + ((0, papers[0][1], "C", 1), (2, papers[3][1], "A", 0), (2, papers[3][1], "C", 1)):
            self.assertIs(place_stands(pair.book, paper), True, paper)

    def test_bent(self):
        pair, papers = self.papers()
        for paper in papers:
            for at in (0, 1, 3):
                for other in NOT_NUMBERS + (99,) + (() if at == 1 else (paper[at] + 1,)):
                    self.assert_refused_paper(pair, paper[:at] + (other,) + paper[at + 1:])
            for kind in ("Thing", "D", "", "a", None, 0, True, ("A",), ["A"], b"A"):
                self.assert_refused_paper(pair, paper[:2] + (kind,) + paper[3:])
        _, (field, setfield, up, send) = self.papers()
        # The parent of the version's kind alone, and what it finds.
        self.assert_refused_paper(pair, up[:2] + ("B", 1))
        self.assert_refused_paper(pair, up[:2] + ("C", 1))
        self.assert_refused_paper(pair, send[:2] + ("A", 1))
        self.assert_refused_paper(pair, field[:3] + (0,))
        self.assert_refused_paper(pair, setfield[:3] + (1,))

    def test_other_rows(self):
        pair, papers = self.papers()
        right = {paper[:2] for paper in papers}
        for version in range(3):
            many = len(all_rows(pair.book.version_of(version)[3]))
            for number in range(-many, many + 2):
                if (version, number) not in right:
                    for kind in "ABC":
                        for what in (0, 1, 2):
                            self.assert_refused_paper(pair, (version, number, kind, what))

    def test_as_it_is_now(self):
        pair, (field, setfield, up, send) = self.papers()
        pair.load("x", "more B method to : end end")
        self.assert_refused_paper(pair, send)
        self.assertIs(place_stands(pair.book, send[:3] + (3,)), True)
        pair.gone("B", "to")
        self.assertIs(place_stands(pair.book, send[:3] + (0,)), True)
        pair.gone("A", "to")
        self.assert_refused_paper(pair, send[:3] + (0,))
        self.assert_refused_paper(pair, send[:3] + (None,))
        self.assert_refused_paper(pair, up)
        pair.lost("A", "f")
        self.assert_refused_paper(pair, setfield)
        self.assert_refused_paper(pair, field)
        self.assertIs(place_stands(pair.book, field[:3] + (0,)), True)
        pair.under("B", "Thing")
        self.assert_refused_paper(pair, up)
        self.assert_refused_paper(pair, up[:2] + ("Thing", None))

    def test_whatever_else(self):
        pair, papers = self.papers()
        for thing in (None, True, 0, "", "abcd", (), [], {}, set(), papers, list(papers[0]), papers[0][:3], papers[0] + (0,),
                      (papers[0],), b"abcd", 1.0, object(), ((),) * 4, ([],) * 4, ({},) * 4, (None,) * 4):
            self.assert_refused_paper(pair, thing)
        self.assertIs(place_stands(Stead().book, papers[0]), False)

    def assert_refused_paper(self, pair, paper):
        self.assertIs(place_stands(pair.book, paper), False, paper)


class StopsTest(SteadCase):
    def test_at_each_beat(self):
        text = "try x := [ 1 ( { a | say a do ( self to ( self on ) ) } call 2 ) ] taken e say e end"
        pair = begun(text, more="more A method to n : raise [ n ] end method on : return 1 end end")
        depths = []
        while pair.view()[0] == "paused":
            view, stops = pair.view(), pair.quick.stops()
            depths.append(len(stops))
            self.assertEqual(pair.plain.stops(), ())
            self.assertIs(stops_stand(pair.book, view, stops), True)
            for frame, stop in zip(view[5], stops):
                rows = rows_of(pair.book.version_of(frame[0])[3], frame[1])
                self.assertEqual((stop[:2], rows[stop[2]][0]), (frame[:2], frame[2]))
                self.assertIn(rows[stop[2]][1], ("beat",) if frame == view[5][-1] else ("send", "up"))
            pair.run(1)
        self.assertEqual(depths, [1, 1, 2, 2, 3, 3, 1])
        self.assertEqual((pair.quick.stops(), pair.plain.stops()), ((), ()))

    def test_of_read_steads_and_twins(self):
        pair = begun("x := [ 1 ( self go ) ]")
        pair.run(5)
        for other in (pair.quick.twin(), read_image(pair.image(), quick=True)):
            self.assertEqual(other.stops(), pair.quick.stops())
        self.assertEqual(read_image(pair.image()).stops(), ())

    def view_and_stops(self):
        pair = begun("x := [ ( self to ) ( 1 + 2 ) ]", more="kind B under Thing end\nmore A method to : do ( { | while true then end } call ) end end")
        pair.run(2)
        return pair.book, pair.view(), pair.quick.stops()

    def test_bent(self):
        book, view, stops = self.view_and_stops()
        self.assertEqual(len(stops), 3)
        for at, stop in enumerate(stops):
            for part in range(3):
                for other in NOT_NUMBERS + (stop[part] + 1, stop[part] - 1):
                    if not (type(other) is int and other == stop[part]):
                        self.refused(stops[:at] + (stop[:part] + (other,) + stop[part + 1:],) + stops[at + 1:])
            for other in (stop[:2], stop + (0,), list(stop), None, (stop,), "abc", ()):
                self.refused(stops[:at] + (other,) + stops[at + 1:])
            self.refused(stops[:at] + stops[at + 1:])
            self.refused(stops[:at] + (stop,) + stops[at:])
        self.refused(stops[::-1])

    def test_other_rows_of_the_node(self):
        book, view, stops = self.view_and_stops()
        for at, stop in enumerate(stops):
            rows = rows_of(book.version_of(stop[0])[3], stop[1])
            for row in range(-len(rows), len(rows) + 3):
                if row != stop[2]:
                    self.refused(stops[:at] + (stop[:2] + (row,),) + stops[at + 1:])

    def test_whatever_else(self):
        _, _, stops = self.view_and_stops()
        for thing in (None, True, 0, "", "abc", (), [], {}, set(), list(stops), (stops,), stops + stops[:1], b"abc", 1.0,
                      (None,) * 3, ((),) * 3, ([],) * 3, object()):
            self.refused(thing)

    def test_without_frames(self):
        pair = Pair()
        for thing, right in (((), True), ([], False), (None, False), (((0, -1, 0),), False), ("", False), (0, False)):
            self.assertIs(stops_stand(pair.book, pair.view(), thing), right)

    def refused(self, thing):
        book, view, _ = self.view_and_stops()
        self.assertIs(stops_stand(book, view, thing), False, thing)


if __name__ == "__main__":
    unittest.main()
