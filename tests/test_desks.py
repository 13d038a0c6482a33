"""Deeds as texts, and desks: [33]."""

import random
import unittest

from sendstead.desks import Desk, deed_text, do, read_deeds
from sendstead.errors import Busy, Fault, Idle, NoDeed, NoFrame, NoKind, SteadError, Undone, Worn
from sendstead.steads import Stead
from tests.steads_help import everything, outcome

PAGE = "kind A under Thing field f\n  method go a :\n    say a\n    say @f\n    return self\n  end\nend\n"
ROWS = (
    (("begin", "A", "go", (1,)), "begin A go 1\n"),
    (("begin", "A", "go", ()), "begin A go\n"),
    (("begin", "Thing", "x" * 12, (None, True, False, 0, -5, 10 ** 12 - 1, "", "aB_9", "x" * 40)),
     "begin Thing %s none true false 0 -5 999999999999 ' 'aB_9 '%s\n" % ("x" * 12, "x" * 40)),
    (("begin", None, "go", ("none",)), "begin - go 'none\n"),
    (("begin", None, "+", ()), "begin - +\n"),
    (("begin", "A", "=", (1, 2)), "begin A = 1 2\n"),
    (("run", 0, ()), "run 0\n"),
    (("run", 2000, ()), "run 2000\n"),
    (("run", 17, (("main", 1), ("b", 300), ("main", 1))), "run 17 main:1 b:300 main:1\n"),
    (("again", 0), "again 0\n"),
    (("again", 1234567890123456), "again 1234567890123456\n"),
    (("name", 3, "x1", -7), "name 3 x1 -7\n"),
    (("name", 0, "a", None), "name 0 a none\n"),
    (("name", 0, "go", "true"), "name 0 go 'true\n"),
    (("forget",), "forget\n"),
    (("gone", "A", "go"), "gone A go\n"),
    (("gone", "Thing", "/"), "gone Thing /\n"),
    (("field", "A", "x", True), "field A x true\n"),
    (("field", "A", "x", ""), "field A x '\n"),
    (("lost", "A", "x"), "lost A x\n"),
    (("under", "A", "Thing"), "under A Thing\n"),
    (("under", "A" + "b" * 11, "A"), "under A%s A\n" % ("b" * 11)),
    (("sweep",), "sweep\n"),
    (("load", "main", ""), "load main\n \n"),
    (("load", "main", "kind"), "load main\n kind\n"),
    (("load", "x" * 12, "\n"), "load %s\n \n \n" % ("x" * 12)),
    (("load", "end", "  a  b \n\n# sweep\n run 1"), "load end\n   a  b \n \n # sweep\n  run 1\n"),
)
NO_ROWS = (
    "", " ", "nope", "begin", "begin A", "begin a go", "begin A Go", "begin A end", "begin A @go", "begin  A go", "begin A go ", " begin A go",
    "begin A go  1", "begin A go 01", "begin A go -0", "begin A go 1000000000000", "begin A go x", "begin A go 'a-b", "begin A go '" + "x" * 41,
    "begin A go None", "begin A go +1", "begin A go ''", "begin - go -", "begin none go", "begin A :=", "begin A :", "begin -- go", "begin A go 1.0",
    "Begin A go", "run", "run -1", "run 2001", "run 01", "run 1 ", "run +1", "run x", "run 1 main", "run 1 main:", "run 1 main:0", "run 1 main:301",
    "run 1 main:01", "run 1 :1", "run 1 Main:1", "run 1 main:1:1", "run 1 main:-1", "run 1 main:x", "run 1 main: 1", "run 1  main:1",
    "run 1 " + "x" * 13 + ":1", "run 1 m1:1", "run 1 2", "run ", "run 99999999999999999999999", "again", "again -1", "again 01", "again x", "again 0 0",
    "again 1.0", "again ", "name", "name 0", "name 0 a", "name 0 a 1 1", "name -1 a 1", "name 00 a 1", "name 0 end 1", "name 0 A 1", "name 0 + 1",
    "name 0 @a 1", "name 0 a b", "name 0 a", "name x a 1", "forget 1", "forget ", "gone", "gone A", "gone a go", "gone A go 1", "gone - go",
    "gone A end", "gone A :=", "field A x", "field A x 1 1", "field A + 1", "field A end 1", "field a x 1", "field A x y", "field A @x 1", "lost A",
    "lost A x 1", "lost A +", "lost a x", "lost A end", "under A", "under A -", "under A thing", "under A B C", "under - A", "sweep 1", "sweep ", "load",
    "load a", "load main ", "load Main", "load a1", "load " + "x" * 13, "load a b", "\t", "run\t1", "deed", "twin", "image", "view", "named 0 a 1",
    "1", "'", "name 0 a 1 ",
)
NO_DEEDS = (
    None, True, 0, 1.0, "", "sweep", (), [], {}, set(), b"sweep", ("nope",), ("Sweep",), (None,), (1,), (("sweep",),), ["sweep"], ("sweep", 1), ("forget", ()),
    ("begin",), ("begin", "A", "go"), ("begin", "A", "go", (), ()), ("begin", "A", "go", [1]), ("begin", "A", "go", None), ("begin", "A", "go", 1),
    ("begin", "a", "go", ()), ("begin", "", "go", ()), ("begin", "-", "go", ()), ("begin", 1, "go", ()), ("begin", "A", "end", ()), ("begin", "A", "Go", ()),
    ("begin", "A", None, ()), ("begin", "A", ":=", ()), ("begin", "A", "go", (10 ** 12,)), ("begin", "A", "go", ("a b",)), ("begin", "A", "go", ((),)),
    ("begin", "A", "go", (("cell", 0),)), ("begin", "A", "go", (1.0,)), ("run",), ("run", 1), ("run", -1, ()), ("run", 2001, ()), ("run", True, ()),
    ("run", "1", ()), ("run", 1, []), ("run", 1, None), ("run", 1, (("main", 0),)), ("run", 1, (("main", 301),)), ("run", 1, (("Main", 1),)),
    ("run", 1, (("", 1),)), ("run", 1, (("main", True),)), ("run", 1, (("main", 1, 1),)), ("run", 1, (["main", 1],)), ("run", 1, ("main",)),
    ("run", 1, ((1, "main"),)), ("run", 1, (), ()), ("again",), ("again", -1), ("again", True), ("again", None), ("again", "0"), ("again", 0, 0),
    ("name", 0, "a"), ("name", -1, "a", 1), ("name", True, "a", 1), ("name", 0, "end", 1), ("name", 0, "A", 1), ("name", 0, 1, 1), ("name", 0, "a", ()),
    ("name", 0, "a", 10 ** 12), ("name", 0, "+", 1), ("named", 0, "a", 1), ("gone", "A"), ("gone", "a", "go"), ("gone", "A", "end"), ("gone", "A", 1),
    ("gone", None, "go"), ("field", "A", "x"), ("field", "A", "end", 1), ("field", "A", "x", []), ("field", "A", "+", 1), ("field", None, "x", 1),
    ("lost", "A"), ("lost", "A", "+"), ("lost", "A", "end"), ("lost", 1, "x"), ("under", "A"), ("under", "A", None), ("under", "A", "b"),
    ("under", None, "A"), ("load", "a"), ("load", "A", ""), ("load", "", ""), ("load", "a1", ""), ("load", "x" * 13, ""), ("load", "a", None),
    ("load", "a", 1), ("load", None, ""), ("load", "a", "", ""), ("load", "a", ("",)),
)


# Numbers of frames far away, with their figures; Python by itself doesn't write all of them.
FAR = tuple((10 ** many, "1" + "0" * many) for many in (59, 60, 61, 119, 120, 599, 600, 601, 639, 640, 641, 4299, 4300, 4301, 20000))
FAR += tuple((10 ** many - 1, "9" * many) for many in (59, 60, 61, 120, 600, 601, 4300, 4301, 20000))
FAR += tuple((int("123456789" * 9) * 10 ** many + 7, "123456789" * 9 + "0" * (many - 1) + "7") for many in (1, 39, 40, 500, 5000))


class TextsTest(unittest.TestCase):
    def test_there_and_back(self):
        for deed, text in ROWS:
            self.assertEqual(deed_text(deed), text)
            self.assertEqual(repr(read_deeds(text)), repr((deed,)))

    def test_frames_far_away(self):
        for k, figures in FAR:
            self.assertTrue(deed_text(("again", k)) == "again %s\n" % figures)
            self.assertTrue(deed_text(("name", k, "a", "7")) == "name %s a '7\n" % figures)
            self.assertTrue(read_deeds("sweep\nagain %s\nforget\n" % figures) == (("sweep",), ("again", k), ("forget",)))
            self.assertTrue(read_deeds("name %s a -7\n" % figures) == (("name", k, "a", -7),))

    def test_each_count_of_figures(self):
        chance = random.Random(5)
        for many in range(1, 260):
            figures = chance.choice("123456789") + "".join(chance.choice("0123456789") for _ in range(many - 1))
            self.assertEqual(read_deeds("again %s\n" % figures), (("again", int(figures)),))
            self.assertEqual(deed_text(("again", int(figures))), "again %s\n" % figures)

    def test_frames_far_away_that_are_none(self):
        for k, figures in FAR:
            for wrong in ("0" + figures, "-" + figures, "+" + figures, figures + "x", figures + ".0", "x" + figures, figures[:1] + "_" + figures[1:]):
                for row in ("again %s\n" % wrong, "name %s a 1\n" % wrong):
                    with self.assertRaises(NoDeed):
                        read_deeds(row)
            for row in ("run %s\n", "run 1 main:%s\n", "name 0 a %s\n", "field A x %s\n", "begin A go %s\n", "forget %s\n"):
                with self.assertRaises(NoDeed):
                    read_deeds(row % figures)
            for deed in (("again", -k), ("name", -k, "a", 1), ("name", 0, "a", k), ("run", k, ()), ("run", 1, (("main", k),)), ("field", "A", "x", -k),
                         ("begin", "A", "go", (k,))):
                with self.assertRaises(NoDeed):
                    deed_text(deed)
                with self.assertRaises(NoDeed):
                    do(Stead(), deed)

    def test_several(self):
        self.assertEqual(read_deeds(""), ())
        chance = random.Random(6)
        for _ in range(100):
            rows = [chance.choice(ROWS) for _ in range(chance.randrange(8))]
            text = "".join(row for _, row in rows)
            self.assertEqual(repr(read_deeds(text)), repr(tuple(deed for deed, _ in rows)))

    def test_no_deeds_rows(self):
        for row in NO_ROWS:
            for text in (row + "\n", "sweep\n" + row + "\nsweep\n", row + "\nrun 1\n"):
                if not (text.startswith("sweep\n ")):
                    with self.assertRaises(NoDeed, msg=text):
                        read_deeds(text)

    def test_rows_of_texts(self):
        for text in ("sweep\n x\n", " x\n", "sweep\n \n", "load a\nkind\n", "load a\n", "load a\nload b\n \n", "load a\n x\nkind\n", "\n", "\n\n",
                     "load a b\n x\n", "load\n a\n x\n", "run 1\n main:1\n", "load a \n x\n", " load a\n x\n"):
            with self.assertRaises(NoDeed, msg=text):
                read_deeds(text)

    def test_each_row_ends_with_a_line_feed(self):
        for text in ("sweep", "sweep\nrun 1", "load a\n x", " ", "run 1 "):
            with self.assertRaises(NoDeed, msg=text):
                read_deeds(text)

    def test_whatever_is_no_text(self):
        for thing in (None, 0, True, (), [], ("sweep\n",), b"sweep\n", 1.0):
            with self.assertRaises(NoDeed):
                read_deeds(thing)

    def test_no_deed_has_a_text(self):
        for thing in NO_DEEDS:
            with self.assertRaises(NoDeed, msg=thing):
                deed_text(thing)


class DoTest(unittest.TestCase):
    def test_what_the_deed_tells(self):
        rows = (("load", "a", PAGE), ("load", "b", "more A method to : end end"), ("begin", "A", "go", (5,)), ("name", 0, "a", 7),
                ("run", 1, ()), ("again", 0), ("field", "A", "g", 1), ("lost", "A", "g"), ("gone", "A", "to"), ("under", "A", "Thing"),
                ("sweep",), ("run", 9, (("a", 5),)), ("forget",), ("begin", "A", "go", (5,)), ("run", 9, ()), ("begin", None, "go", (None,)))
        for quick in (False, True):
            one, other = Stead(quick=quick), Stead(quick=quick)
            for deed in rows:
                word, *worths = deed
                told = do(one, deed)
                if word == "run":
                    self.assertEqual(told, other.run(worths[0], marks=worths[1]))
                else:
                    self.assertEqual(told, getattr(other, "named" if word == "name" else word)(*worths))
                self.assertEqual(everything(one), everything(other))
            self.assertEqual(len(one), len(rows))

    def test_what_the_deed_is_refused_with(self):
        stead = Stead()
        stead.load("a", PAGE)
        for deed, error in ((("run", 1, ()), Idle), (("again", 7), Idle), (("begin", "X", "go", ()), NoKind), (("load", "b", "kind"), Fault)):
            with self.assertRaises(SteadError) as caught:
                do(stead, deed)
            self.assertIs(type(caught.exception), error)
        stead.begin("A", "go", (1,))
        with self.assertRaises(NoFrame):
            do(stead, ("again", 7))
        with self.assertRaises(Busy):
            do(stead, ("begin", "X", "go", ()))

    def test_frames_far_away(self):
        for quick in (False, True):
            stead = Stead(quick=quick)
            stead.load("a", PAGE)
            for k, _ in FAR:
                for deed in (("again", k), ("name", k, "a", 1), ("name", k, "nope", 1)):
                    with self.assertRaises(Idle):
                        do(stead, deed)
            stead.begin("A", "go", (1,))
            ahead = everything(stead)
            for k, figures in FAR:
                for deed in (("again", k), ("name", k, "a", 1), ("name", k, "nope", 1)):
                    with self.assertRaises(NoFrame):
                        do(stead, deed)
                desk = Desk(stead.twin())
                with self.assertRaises(Undone) as caught:
                    desk.do("run 1\nagain %s\n" % figures)
                self.assertEqual((caught.exception.at, type(caught.exception.__cause__)), (1, NoFrame))
            self.assertEqual(everything(stead), ahead)

    def test_no_deeds(self):
        stead = Stead()
        stead.load("a", PAGE)
        stead.begin("A", "go", (1,))
        ahead = everything(stead)
        for thing in NO_DEEDS:
            with self.assertRaises(NoDeed, msg=thing):
                do(stead, thing)
            self.assertEqual(everything(stead), ahead)

    def test_no_deed_is_ahead_of_worn(self):
        stead = Stead()
        for _ in range(600):
            stead.sweep()
        for thing in NO_DEEDS:
            with self.assertRaises(NoDeed, msg=thing):
                do(stead, thing)
        for deed, _ in ROWS:
            with self.assertRaises(Worn):
                do(stead, deed)


LOAD = deed_text(("load", "main", PAGE))


class DeskTest(unittest.TestCase):
    def test_a_new_desk(self):
        stead = Stead()
        desk = Desk(stead)
        self.assertIs(desk.stead, stead)
        self.assertEqual(desk.log, ())

    def test_texts_done(self):
        for quick in (False, True):
            stead = Stead(quick=quick)
            desk = Desk(stead)
            self.assertEqual(desk.do(LOAD + "begin A go 5\nrun 1 main:4\nfield A g none\n"),
                             ((0,), None, 1, (("A", ("f",), ("f", "g"), None),)))
            self.assertEqual(desk.do(""), ())
            self.assertEqual(desk.do("run 100\nbegin - go 'x\n"), (2, None))
            self.assertIs(desk.stead, stead)
            self.assertEqual(desk.log, ((4, True), (0, True), (2, True)))
            self.assertEqual((len(stead), stead.view()[:2]), (6, ("paused", 3)))

    def test_a_text_that_is_undone(self):
        for quick in (False, True):
            desk = Desk(Stead(quick=quick))
            desk.do(LOAD + "begin A go 5\nrun 2\n")
            ahead = everything(desk.stead)
            text = "run 1\nbegin - go 7\nfield A g 1\nload other\n kind B under A end\nrun 1\nforget\nrun 1\nsweep\n"
            with self.assertRaises(Undone) as caught:
                desk.do(text)
            self.assertEqual(caught.exception.at, 6)
            self.assertIs(type(caught.exception.__cause__), Idle)
            behind = everything(desk.stead)
            # Places remember nothing then, and looked is 0.
            self.assertEqual(behind[:2] + behind[4:], ahead[:2] + ahead[4:])
            self.assertEqual((desk.stead.places(), desk.stead.looked()), ((), 0))
            self.assertEqual(desk.log, ((3, True), (8, False)))
            self.assertEqual(desk.do("run 1\n"), (1,))
            self.assertEqual(desk.stead.view()[0], "ended")
            self.assertEqual(desk.log, ((3, True), (8, False), (1, True)))

    def test_at_each_deed(self):
        for at in range(5):
            desk = Desk(Stead())
            rows = ["sweep\n"] * 5
            rows[at] = "forget\n"
            with self.assertRaises(Undone) as caught:
                desk.do("".join(rows))
            self.assertEqual((caught.exception.at, len(desk.stead), desk.log), (at, 0, ((5, False),)))

    def test_a_fault_of_a_page(self):
        desk = Desk(Stead())
        with self.assertRaises(Undone) as caught:
            desk.do(LOAD + "load other\n more A end\n more B end\n")
        cause = caught.exception.__cause__
        self.assertEqual((caught.exception.at, cause.page, cause.row, cause.column, cause.why), (1, "other", 2, 6, "kind"))
        self.assertEqual(desk.stead.book.kinds(), ())
        desk.do(LOAD)
        self.assertEqual(desk.stead.book.kinds(), ("A",))

    def test_a_text_that_is_none_is_not_read(self):
        stead = Stead()
        desk = Desk(stead)
        for text in ("sweep", "sweep\nnope\n", "load a\n", None, " "):
            with self.assertRaises(NoDeed):
                desk.do(text)
        self.assertEqual((desk.log, len(stead), desk.stead is stead), ((), 0, True))

    def test_worn(self):
        desk = Desk(Stead())
        desk.do("sweep\n" * 598)
        with self.assertRaises(Undone) as caught:
            desk.do("sweep\n" * 3)
        self.assertEqual((caught.exception.at, type(caught.exception.__cause__), len(desk.stead)), (2, Worn, 598))
        desk.do("sweep\n" * 2)
        with self.assertRaises(Undone):
            desk.do("run 0\n")
        self.assertEqual(len(desk.stead), 600)

    def test_refusals_by_and_by(self):
        chance = random.Random(3)
        for _ in range(30):
            one, other = Desk(Stead()), Desk(Stead(quick=True))
            for desk in (one, other):
                desk.do(LOAD)
            for _ in range(12):
                rows = [chance.choice(("run 1\n", "begin A go 1\n", "sweep\n", "forget\n", "again 0\n", "name 0 a 'n\n", "field A x 1\n", "lost A x\n"))
                        for _ in range(chance.randrange(1, 4))]
                ahead = one.stead.view(), len(one.stead)
                told, refusal = outcome(lambda: one.do("".join(rows)))
                also, other_refusal = outcome(lambda: other.do("".join(rows)))
                self.assertEqual((told is None, str(refusal), one.log), (also is None, str(other_refusal), other.log))
                self.assertEqual(one.stead.view(), other.stead.view())
                if refusal is not None:
                    self.assertEqual((one.stead.view(), len(one.stead)), ahead)
                    self.assertIs(type(refusal), Undone)


if __name__ == "__main__":
    unittest.main()
