"""The faults for which a book refuses a page: [9] and [7]."""

from tests.books_help import BookCase, book_of

OLD = "kind A under Thing field a method go x : say @a end end\nkind B under A field b end"


def method_in(statements, parameters=""):
    return "kind M under A field m method go %s :\n%s\nend end" % (parameters, statements)


def in_rows(text):
    """The text with each kind, more and method in a row of its own, as rows must be short."""
    for word in ("kind", "more", "method"):
        text = text.replace(" %s " % word, "\n%s " % word)
    return text


class LoadCase(BookCase):
    def setUp(self):
        self.book = book_of(OLD)

    def fault(self, why, text):
        self.assert_fault(self.book, why, in_rows(text))

    def taken(self, text):
        return self.book.copy().load("new", in_rows(text))


class KindFaultsTest(LoadCase):
    def test_twice(self):
        self.fault("twice", "kind ^A under Thing end")
        self.fault("twice", "kind C under Thing end\nkind\n^C under Nope end")
        self.fault("twice", "kind ^Thing under Thing end")
        self.fault("twice", "kind C under Thing end kind ^B under B end")

    def test_a_ninth(self):
        kinds = " ".join("kind K%d under B end" % at for at in range(6))
        self.assertEqual(self.taken(kinds + " more B end"), ())
        self.fault("many", kinds + "\nkind ^K6 under Nope end")
        self.fault("twice", kinds + "\nkind ^K3 under Nope end")
        self.fault("twice", kinds + "\nkind ^Thing under Nope end")
        self.book.load("x", kinds)
        self.fault("many", "kind ^K6 under Thing end")
        self.fault("twice", "kind ^K5 under Thing end")

    def test_more(self):
        self.fault("kind", "more ^C end")
        self.fault("kind", "more ^Thing end kind C under Nope end")
        self.fault("kind", "more C end kind C under ^D end")
        self.assertEqual(self.taken("more C end kind C under A end more B end"), ())

    def test_parent(self):
        self.fault("kind", "kind C under ^D end")
        self.fault("kind", "kind C under\n^Nope field a field a end")
        self.assertEqual(self.taken("kind C under D end kind D under E end kind E under Thing end"), ())

    def test_rings(self):
        self.fault("ring", "kind C under ^C end")
        self.fault("ring", "kind C under ^D end kind D under C end")
        self.fault("ring", "kind C under ^D end kind D under E end kind E under C end")
        self.fault("ring", "kind C under A end kind D under ^E end kind E under E end")
        self.fault("ring", "kind X under ^C end kind C under D end kind D under C end")
        self.fault("ring", "kind X under ^Y end kind Y under C end kind C under C end")
        # A parent that isn't there ends the line.
        self.fault("kind", "kind C under D end kind D under ^E end")
        self.fault("kind", "kind E under ^Nope end kind C under D end kind D under D end")

    def test_rings_and_kinds_told_twice(self):
        # Of kinds told twice the first one counts.
        self.fault("twice", "kind C under D end kind D under Thing end kind ^D under C end")
        self.fault("twice", "kind C under B end kind ^B under C end")
        self.fault("twice", "kind C under Thing end kind ^Thing under C end")
        self.fault("ring", "kind C under ^D end kind D under C end kind D under Thing end")


class FieldFaultsTest(LoadCase):
    def test_twice(self):
        self.fault("twice", "kind C under Thing field x field y field ^x end")
        self.fault("clash", "kind C under A field x field ^a field a end")

    def test_clash(self):
        self.fault("clash", "kind C under B field ^a end")
        self.fault("clash", "kind C under B field c field\n^b end")
        self.fault("clash", "kind C under Thing field c end kind D under C field d field ^c end")
        self.fault("clash", "kind D under C field d field ^c end kind C under Thing field c end")
        self.fault("clash", "kind E under D field ^c end kind D under C end kind C under Thing field c end")
        self.assertEqual(self.taken("kind C under Thing field a end kind D under Thing field a field b end"), ())
        # A parent that isn't there has no fields.
        self.fault("clash", "kind C under D field ^x end kind D under Nope field x end")

    def test_many_of_its_own(self):
        self.assertEqual(self.taken("kind C under Thing field a field b field c field d end"), ())
        self.fault("many", "kind C under Thing field a field b field c field d field ^e end")
        self.fault("twice", "kind C under Thing field a field b field c field d field ^a end")
        self.fault("clash", "kind C under B field c field d field e field f field ^b end")

    def test_many_in_all(self):
        above = "kind C under B field c field d field e field f end "
        self.assertEqual(self.taken(above + "kind D under C field g field h end"), ())
        self.fault("many", above + "kind D under C field g field h\nfield ^i end")
        self.fault("many", "kind D under C field g field h field ^i field j end " + above)
        self.fault("clash", above + "kind D under C field g field h field ^a end")
        # Ahead of the fault of the kind above by rows and columns.
        self.fault("many", "kind D under C field g field h field ^i end " + above.replace("field f", "field c"))


class MethodFaultsTest(LoadCase):
    def test_twice(self):
        self.fault("twice", "kind C under Thing method go : end method to : end method ^go a : end end")
        self.fault("twice", "more A method go : end method ^go : end end")
        self.assertEqual(self.taken("more A method go : end end more A method go : end end"), (1, 2))
        self.assertEqual(self.taken("kind C under Thing method go : end end more C method go : end end"), (1, 2))

    def test_a_ninth(self):
        eight = " ".join("method m%d : end" % at for at in range(8))
        self.assertEqual(len(self.taken("kind C under Thing " + eight + " end")), 8)
        self.fault("many", "kind C under Thing " + eight + "\nmethod ^m8 : end end")
        self.fault("twice", "kind C under Thing " + eight + "\nmethod ^m0 : end end")
        # A has go already.
        self.fault("many", "more A\n" + eight.replace("m7", "^m7") + " end")
        self.fault("many", "more A\n" + eight.replace("m7", "go") + " end more A\nmethod m0 : end method ^m9 : end end")
        again = "more A " + eight.replace("m7", "go") + " end more A method m3 : end end"
        self.assertEqual(len(self.taken(again)), 9)
        self.fault("many", "more C method x : end end\nkind C under Thing " + eight.replace("m7", "^m7") + " end")
        self.assertEqual(len(self.taken("more B " + eight + " end")), 8)
        self.book.load("x", in_rows("more A " + eight.replace("method m7 : end", "").replace("m6", "m5x") + " end"))
        self.book.gone("A", "m3")
        self.assertEqual(self.taken("more A method go : end method m0 : end method m7 : end end"), (8, 9, 10))
        self.fault("many", "more A method go : end method m7 : end method m0 : end method ^m8 : end end")

    def test_parameters(self):
        self.fault("twice", "more A method go a b ^a : end end")
        self.fault("twice", method_in("do { x y ^y | }"))
        self.fault("many", "more A method go a b c d ^e : end end")
        self.fault("many", method_in("do { a b c d ^e f | }", "a b c d"))
        self.fault("twice", "more A method go a b c d ^a : end end")
        self.fault("twice", method_in("do { a b c d ^d | }"))
        self.assertEqual(self.taken(method_in("do { a b c d | do { a b | } }", "a b c d")), (1,))

    def test_a_thirteenth_name(self):
        eight = "\n".join("n%d := a" % at for at in range(8)) + "\n"
        self.assertEqual(self.taken(method_in(eight, "a b c d")), (1,))
        self.fault("many", method_in(eight + "^n8 := n9", "a b c d"))
        self.fault("many", method_in("n8 := { | " + eight + "do [ { | ^n9 := 1 } ] } n10 := 2", "a b c"))
        self.fault("many", method_in(eight + "try taken ^n8 end", "a b c d"))
        self.fault("many", method_in(eight + "if a then ^n8 := 1 else n0 := 1 end", "a b c d"))
        # A parameter of a block around is no name of the method.
        self.assertEqual(self.taken(method_in(eight + "do { n8 | n8 := 1 do { b | try taken n8 n8 := 2 end } }",
                                              "a b c d")), (1,))
        self.fault("many", method_in(eight + "do { n8 | n8 := 1 } ^n8 := 2", "a b c d"))
        # By nodes the taken name is ahead of those that are set in the try.
        self.fault("many", method_in(eight + "try ^n9 := 1 taken n8 end", "a b c"))
        self.fault("many", method_in(eight + "try n0 := 1 taken n8 ^n9 := 1 end", "a b c"))

    def test_nodes(self):
        dos = "\n".join("do { | }" for _ in range(75))
        self.assertEqual(self.taken(method_in(dos)), (1,))
        self.fault("many", "kind C under Thing method x : end\n^method go a a :\n" + dos + "\ndo { | say b } end end")
        self.fault("many", "more A ^method go :\n" + dos.replace("{ | }", "1", 1) + "\ndo @zz end end")


class WordFaultsTest(LoadCase):
    def test_names(self):
        self.fault("name", method_in("say ^a"))
        self.fault("name", method_in("say [ b ( ^c + d ) ] b := 1", "a"))
        self.fault("name", method_in("do { c | say c } say ^c"))
        self.fault("name", method_in("do { c | do { d | say [ c d ] } say ^d }"))
        self.fault("name", method_in("do { c | c := 1 } say ^c"))
        self.fault("name", method_in("do { c | try taken c end } do ( up x ^c )"))
        self.fault("name", method_in("@m := ^m"))
        self.fault("name", "more A method go : x := 1 end method to : say ^x end end")

    def test_names_that_stand_for_something(self):
        self.assertEqual(self.taken(method_in("say a say b say e b := 1 try taken e end say e do { c | say [ a b c ] }", "a"
                                              )), (1,))
        self.assertEqual(self.taken(method_in("do { c | do { d | say c y := d } } say y")), (1,))
        self.assertEqual(self.taken(method_in("do { c | c := 1 c := 2 } c := 1 say c")), (1,))

    def test_fields(self):
        self.fault("field", method_in("say ^@b"))
        self.fault("field", method_in("^@b := @b"))
        self.fault("field", method_in("do { | @m := [ @a ( up go ^@x ) ] }"))
        self.fault("field", "more A method go : say @a say ^@b end end")
        self.fault("field", "more A method go : say @a ^@b := 1 end end")
        self.fault("field", "kind C under Thing method go : say ^@c end end kind D under C field c end")
        self.assertEqual(self.taken("more B method go : @a := @b end end " + method_in("@a := @m")), (1, 2))
        self.assertEqual(self.taken("more C method go : say [ @a @c @d ] end end kind C under D field c end "
                                    "kind D under A field d end"), (1,))

    def test_new(self):
        self.fault("kind", method_in("do new ^C"))
        self.fault("kind", method_in("do [ new A new ( ) ]").replace("( )", "A new ^a").replace("^a", "^Aa"))
        self.assertEqual(self.taken(method_in("do [ new A new M new Thing new Z ]") + " kind Z under A end"), (1,))

    def test_all_places_of_es(self):
        for statement in ("x := %s", "@m := %s", "do %s", "say %s", "return %s", "raise %s", "if %s then else end",
                          "if 1 then say %s else end", "if 1 then else say %s end", "while %s then end",
                          "while 1 then do %s end", "try do %s taken x end", "try taken x do %s end",
                          "do ( %s go )", "do ( 1 go 2 %s )", "do ( up go %s 3 )", "do [ 1 %s 2 ]", "do { | do %s }"):
            for why, word in (("name", "^y"), ("field", "^@y"), ("kind", "new ^Y")):
                self.fault(why, method_in(statement % word + " do nope"))

    def test_marks_and_small_messages(self):
        self.fault("name", method_in("do ( ( 1 + 2 ) go ( 3 < ( up add 4 ) ) ) say ^x"))
        self.fault("name", method_in("if ( 1 = 2 ) then do ( [ { a | } ] at 0 ) else say none end say ^x"))


class OrderOfFaultsTest(LoadCase):
    def test_by_rows_and_columns(self):
        first, second = "kind C under Thing field c method go : say ^x end end\n", "kind ^A under Thing end\n"
        self.fault("name", first + second.replace("^", ""))
        self.fault("twice", second + first.replace("^", ""))
        first, second = "kind C under Thing field c field ^c", " method go : say @^d end end".replace("@^", "^@")
        self.fault("twice", first + second.replace("^", ""))
        first, second = "kind C under ^D field c field c", " method go : say @d end end"
        self.fault("kind", first + second)
        self.fault("field", method_in("say ^@x say y do { a a | }"))
        self.fault("name", method_in("say ^y say @x do { a a | }"))
        self.fault("twice", method_in("do { a ^a | } say @x say y"))
        self.fault("many", "kind M under A ^method go a a :\n" + "do { | }\n" * 76 + "say x end end")

    def test_faults_of_the_text_are_ahead_of_all(self):
        self.fault("word", "kind A under A field a field a method go a a : say b end end ^kin")
        self.fault("sign", "kind A under A end ^#")
        self.fault("end", "kind A under A end kind B^")
        self.fault("deep", "kind A under A method go : do " + "[" * 12 + "^[")


if __name__ == "__main__":
    import unittest
    unittest.main()
