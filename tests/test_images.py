"""Images: [29]."""

import random
import unittest

from sendstead.errors import NoImage, SteadError
from sendstead.images import read_image
from sendstead.steads import Stead
from tests.steads_help import Pair, at_path, bent, paths

TEXT = """kind A under Thing field f
  method go a :
    b := { p q |
      do ( { r | c := [ r p a self { | } ] do ( self to c ) } call 7 )
    }
    try
      do [ 1 ( b call a 'x ) ]
    taken e
      raise e
    end
  end
  method to l :
    say ( l at 0 )
    x := ( up what )
  end
end
kind B under A field g
  method go a : @g := [ @f ] return ( up go a ) end
end
"""


def images():
    """Images of steads in all states, by what they show."""
    stead = Stead(room=60, deep=7)
    told = {"new": stead.image()}
    stead.load("main", TEXT)
    told["loaded"] = stead.image()
    stead.begin("B", "go", (5,))
    told["begun"] = stead.image()
    stead.run(6)
    stead.named(0, "a", True)
    told["paused"] = stead.image()
    stead.load("later", "more A method to l : say 1 raise [ l ] end method on : return self end end\nkind C under Thing end\n")
    stead.field("A", "h", "new")
    stead.run(3)
    told["deep"] = stead.image()
    stead.run(100)
    told["failed"] = stead.image()
    stead.begin("A", "on")
    stead.run(100)
    told["ended"] = stead.image()
    stead.begin(None, "go", (None,))
    stead.run(4)
    told["again"] = stead.image()
    stead.forget()
    stead.gone("A", "go")
    told["forgotten"] = stead.image()
    return told


IMAGES = images()


class ImageCase(unittest.TestCase):
    def assert_read(self, image):
        for quick in (False, True):
            stead = read_image(image, quick=quick)
            self.assertEqual(repr(stead.image()), repr(image))
        return stead

    def assert_no_image(self, thing, ways=(False, True)):
        for quick in ways:
            with self.assertRaises(SteadError) as caught:
                read_image(thing, quick=quick)
            self.assertIs(type(caught.exception), NoImage, thing)

    def refused(self, name, path, *parts):
        """The image of that name is refused with each of these in the place of the part at a path."""
        image = IMAGES[name]
        for part in parts:
            self.assertNotEqual(repr(part), repr(at_path(image, path)))
            self.assert_no_image(bent(image, path, part))


class WrittenTest(ImageCase):
    def test_form(self):
        image = IMAGES["paused"]
        self.assertEqual(image[:2], ("image", (("A", "Thing", ("f",), (("go", 0), ("to", 1))), ("B", "A", ("g",), (("go", 2),)))))
        self.assertEqual([version[:3] for version in image[2]], [("A", "go", "main"), ("A", "to", "main"), ("B", "go", "main")])
        self.assertEqual(image[3:6], (("main",), 60, 7))
        self.assertEqual(image[2][2][4][0], (18, 17))
        stead = read_image(image)
        self.assertEqual(image[6], stead.view())
        self.assertEqual([stead.book.version_of(v) for v in range(3)], list(image[2]))

    def test_messages_rise(self):
        image = IMAGES["deep"]
        self.assertEqual(image[1], (("A", "Thing", ("f", "h"), (("go", 0), ("on", 4), ("to", 3))), ("B", "A", ("g",), (("go", 2),)),
                                    ("C", "Thing", (), ())))
        self.assertEqual(image[3], ("main", "later"))

    def test_states(self):
        told = {name: image[6][0] for name, image in IMAGES.items()}
        self.assertEqual(told, {"new": "idle", "loaded": "idle", "begun": "paused", "paused": "paused", "deep": "paused",
                                "failed": "failed", "ended": "ended", "again": "paused", "forgotten": "idle"})
        self.assertGreaterEqual(len(IMAGES["deep"][6][5]), 4)


class ReadTest(ImageCase):
    def test_read_and_written_again(self):
        for image in IMAGES.values():
            stead = self.assert_read(image)
            self.assertEqual((len(stead), stead.book.stamp(), stead.looked(), stead.places()), (0, 0, 0, ()))

    def test_it_goes_on_as_the_one_that_wrote_it(self):
        for quick in (False, True):
            for beats in range(12):
                stead = Stead(quick=quick, room=60, deep=7)
                stead.load("main", TEXT)
                stead.begin("B", "go", (5,))
                stead.run(beats)
                others = [read_image(stead.image()), read_image(stead.image(), quick=True), read_image(stead.twin().image())]
                for other in others:
                    self.assertTrue(other == stead)
                for deed, worths in (("run", (2,)), ("field", ("A", "z", 3)), ("load", ("x", "more A method to l : end end")),
                                     ("again", (0,)), ("run", (100,)), ("forget", ()), ("begin", ("A", "go", (1,))), ("run", (7,)),
                                     ("under", ("B", "A")), ("run", (100,))):
                    told = outcome(stead, deed, worths)
                    for other in others:
                        self.assertEqual(outcome(other, deed, worths), told)
                        self.assertEqual((other.view(), other.image()), (stead.view(), stead.image()))

    def test_old_versions_may_name_fields_that_are_gone(self):
        stead = Stead()
        stead.load("a", "kind A under Thing field f method go : say @f end end")
        stead.begin("A", "go")
        stead.gone("A", "go")
        stead.lost("A", "f")
        self.assert_read(stead.image())

    def test_plain_unless_told(self):
        self.assertEqual(read_image(IMAGES["paused"]).stops(), ())
        self.assertEqual(read_image(IMAGES["paused"], quick=False).stops(), ())
        self.assertEqual(len(read_image(IMAGES["paused"], quick=True).stops()), 4)

    def test_the_smallest_and_the_largest(self):
        for room, deep in ((1, 1), (400, 40)):
            stead = Stead(room=room, deep=deep)
            stead.load("a", "kind A under Thing method go : try taken e end end end")
            self.assert_read(stead.image())
            # It stands at the last node of all.
            stead.begin("A", "go")
            self.assert_read(stead.image())

    def test_each_said_text(self):
        stead = Stead()
        stead.load("a", "kind A under Thing method go : say -5 say none say self say [ ] say { | }\nsay 'x say ' say new Thing end end")
        stead.begin("A", "go")
        stead.run(100)
        self.assert_read(stead.image())


def outcome(stead, deed, worths):
    try:
        return getattr(stead, deed)(*worths)
    except SteadError as refusal:
        return type(refusal)


class WhateverElseTest(ImageCase):
    def test_whatever_is_handed_in(self):
        deep = ()
        for _ in range(60):
            deep = (deep,)
        image = IMAGES["paused"]
        for thing in (None, True, False, 0, 7, 1.0, "", "image", b"image", (), [], {}, set(), object(), ("image",), deep, (deep,) * 7,
                      list(image), image[:6], image + (0,), image[::-1], (image,), ("Image",) + image[1:], (None,) * 7,
                      ("image",) + ((),) * 6, ("image",) + (None,) * 6, ("image",) + ([],) * 6, ("image",) + ("",) * 6,
                      ("image",) + (0,) * 6, ("image",) + (deep,) * 6):
            self.assert_no_image(thing)

    def test_another_kind_of_thing_in_each_place(self):
        """Lists for tuples, truths and other things for numbers and so on; each part is of one kind, or two."""
        chance = random.Random(9)
        for name in ("loaded", "deep", "failed", "ended"):
            image = IMAGES[name]
            # Of versions, which are long, just some.
            for path in [path for path in paths(image) if path[:1] != (2,) or chance.random() < 0.1]:
                part = at_path(image, path)
                others = [[], {}, 1.0, b"", object(), set()]
                if isinstance(part, tuple):
                    others += [list(part), part + (0.5,), part + ([],), (part,), "tup le"]
                for other in others:
                    self.assert_no_image(bent(image, path, other), (False,))

    def test_parts_left_out(self):
        """A part left out of a tuple leaves an image in few places alone."""
        chance = random.Random(8)
        for name in ("deep", "failed"):
            image = IMAGES[name]
            for path in paths(image):
                if len(path) > 1 and (path[0] != 2 or chance.random() < 0.2):
                    whole = at_path(image, path[:-1])
                    less = bent(image, path[:-1], whole[:path[-1]] + whole[path[-1] + 1:])
                    # A kind without a method or the last kind, what was said, a worth of a list, a list that leads nowhere.
                    may_go = (path[0] == 1 and path[2:3] == (3,) and len(path) == 4) or path == (1, 2) or path[:2] == (6, 2)
                    in_list = path[:2] == (6, 6) and at_path(image, path[:3])[0] == "list" and path[3:4] != (0,)
                    if not may_go and not in_list:
                        self.assert_no_image(less, (True,))


class BookClausesTest(ImageCase):
    def test_kinds(self):
        name = "deep"
        self.refused(name, (1, 0, 0), "a", "", "B", "Thing", "Zz", "A b", "A" * 13, None, 1, True, ("A",))
        self.refused(name, (1, 0, 1), "B", "C ", "Nope", "", "A", None, 1, "thing")
        self.refused(name, (1, 1, 1), "B", "Thing", "Cc")
        self.refused(name, (1, 2, 1), "C", "B b")
        self.refused(name, (1, 0, 2), (), ("f",), ("f", "f"), ("f", "g"), ("f", "H"), ("f", "end"), ("f", 1), ("f", "h", "i"),
                     ("f", "h", "i", "j", "k"), ("f", "@h"), ("f", ""), ("f", "x" * 13), ["f", "h"], "fh", None)
        self.refused(name, (1, 2, 2), ("a", "b", "c", "d", "e"))
        self.assert_read(bent(IMAGES[name], (1, 2, 2), ("a", "b", "c", "d")))
        self.assert_read(bent(IMAGES[name], (1, 2, 1), "B"))

    def test_kinds_twice_and_too_many(self):
        kinds = IMAGES["deep"][1]
        self.refused("deep", (1,), kinds + kinds[2:], kinds + kinds[:1], kinds[::-1][:2], kinds[:1], ())
        more = tuple(("K%d" % at, "Thing", (), ()) for at in range(6))
        self.assert_read(bent(IMAGES["deep"], (1,), kinds + more[:5]))
        self.refused("deep", (1,), kinds + more)

    def test_rings_and_lines(self):
        kinds = IMAGES["loaded"][1]
        self.refused("loaded", (1,), (("A", "B") + kinds[0][2:], kinds[1]), (kinds[0], ("B", "B") + kinds[1][2:]),
                     kinds + (("C", "D", (), ()), ("D", "C", (), ())), kinds + (("C", "B", ("f",), ()),),
                     kinds + (("C", "B", ("g",), ()),))
        four = ("a", "b", "c", "d")
        eight = kinds + (("C", "B", ("x", "y", "z"), ()), ("D", "C", ("u", "v", "w"), ()))
        self.assert_read(bent(IMAGES["loaded"], (1,), eight))
        self.refused("loaded", (1,), eight + (("E", "D", ("t",), ()),), eight[:3] + (("D", "C", four, ()),))
        # The parent may be a later kind.
        self.assert_read(bent(IMAGES["loaded"], (1,), kinds[::-1]))

    def test_thing_is_no_kind_of_a_book(self):
        for parent in ("Thing", "A"):
            self.refused("deep", (1,), IMAGES["deep"][1] + (("Thing", parent, (), ()),))

    def test_heads(self):
        self.refused("deep", (1, 0, 3), (("to", 3), ("go", 0)), (("go", 0), ("go", 0)), (("go", 0), ("to", 0)), (("go", 1), ("to", 3)),
                     (("go", 2), ("to", 3)), (("go", 0), ("to", 4)), (("go", 0), ("to", -1)), (("go", 0), ("to", True)),
                     (("go", False), ("to", 3)), (("go", 0), ("to", None)), (("go", 0), ("on", 3)), (("go", 0), ("up", 3)),
                     (("go", 0), (3, "to")), (("go", 0), ("to", 3, 0)), (("go", 0), None), (("go", 0), "to"))
        # An older version may be the one that is present.
        self.assert_read(bent(IMAGES["deep"], (1, 0, 3), (("go", 0), ("to", 1))))
        self.assert_read(bent(IMAGES["deep"], (1, 0, 3), ()))

    def test_too_many_methods(self):
        version = ("A", "go", "main", ("method", "go", (), ()), ())
        many = tuple(version[:1] + ("m%d" % at, "main", ("method", "m%d" % at, (), ()), ()) for at in range(9))
        heads = tuple(("m%d" % at, at) for at in range(9))
        image = ("image", (("A", "Thing", (), heads[:8]),), many, ("main",), 120, 20, Stead().view())
        self.assert_read(image)
        self.assert_no_image(bent(image, (1, 0, 3), heads))

    def test_versions(self):
        name = "deep"
        self.refused(name, (2, 3, 0), "B", "C", "D", "Thing", "", None, 1)
        # Of an older version, too, that nothing leads to by its kind.
        self.refused(name, (2, 1, 0), "D", "Thing", "", None, 1)
        self.refused(name, (2, 3, 1), "go", "on", "end", "", None, 1, "+")
        self.refused(name, (2, 3, 2), "other", "", "Main", None, 1, ("later",))
        self.refused(name, (2, 3, 3, 1), "go", "end", "", None, "+")
        self.assert_read(bent(IMAGES[name], (2, 3, 2), "main"))
        versions = IMAGES[name][2]
        # Older ones of no kind's that no frame has may be there or not, if all numbers stay right.
        self.assert_read(bent(IMAGES["loaded"], (2,), IMAGES["loaded"][2] + versions[3:3]))
        self.refused("loaded", (2,), versions[:2], (), versions[::-1], versions[:3] + ((),))

    def test_too_many_versions_and_pages(self):
        version = ("A", "go", "main", ("method", "go", (), ()), ())
        image = ("image", (("A", "Thing", (), ()),), (version,) * 200, ("main",), 120, 20, Stead().view())
        self.assert_read(image)
        self.assert_no_image(bent(image, (2,), (version,) * 201))
        pages = tuple("main" + "abcdefgh"[at // 8] + "abcdefgh"[at % 8] for at in range(59))
        self.assert_read(bent(image, (3,), pages + ("main",)))
        self.assert_no_image(bent(image, (3,), pages + ("main", "other")))

    def test_pages(self):
        self.refused("deep", (3,), ("main",), ("later",), ("main", "main"), ("main", "later", "main"), ("main", "later", ""),
                     ("main", "later", "x" * 13), ("main", "later", "A"), ("main", "later", "a1"), ("main", "later", None),
                     ("main", "later", 1), "main", None, (), ("main", "later", "a b"))
        self.assert_read(bent(IMAGES["deep"], (3,), ("later", "x", "main")))

    def test_room_and_deep(self):
        self.refused("deep", (4,), 0, 401, -1, None, "60", True, 1.0, 3)
        self.refused("deep", (5,), 0, 41, -1, None, "7", True, 1.0, 3)
        self.assert_read(bent(bent(IMAGES["deep"], (4,), 400), (5,), 40))
        self.assert_read(bent(IMAGES["deep"], (5,), len(IMAGES["deep"][6][5])))


class TreeClausesTest(ImageCase):
    def image(self, statements, parameters=(), many=None, places=None):
        tree = ("method", "go", parameters, statements)
        if many is None:
            many = count(statements)
        places = tuple((1 + at // 100, 1 + at % 100) for at in range(many)) if places is None else places
        return ("image", (("A", "Thing", (), (("go", 0),)),), (("A", "go", "main", tree, places),), ("main",), 120, 20, Stead().view())

    def right(self, *worths, **more):
        self.assert_read(self.image(*worths, **more))

    def wrong(self, *worths, **more):
        self.assert_no_image(self.image(*worths, **more))

    E = ("none",)

    def test_it_is_a_method(self):
        image = self.image(())
        self.assert_read(image)
        for head in ("Method", "block", "kind", "", None, 1, ("method",), b"method"):
            self.assert_no_image(bent(image, (2, 0, 3, 0), head))
        self.assert_no_image(bent(bent(image, (2, 0, 1), "end"), (2, 0, 3, 1), "end"))

    def test_statements(self):
        e = self.E
        for statement in (("set", "x", e), ("setfield", "x", e), ("do", e), ("say", e), ("return", e), ("raise", e), ("if", e, (), ()),
                          ("while", e, ()), ("try", (), "x", ()), ("if", e, (("do", e),), (("do", e), ("say", e))),
                          ("while", e, (("do", e),)), ("try", (("do", e),), "x", (("do", e),))):
            self.right((statement,))
            for other in (statement[:-1], statement + (e,), statement + ((),), list(statement), ("Do",) + statement[1:], (1,) + statement[1:],
                          statement[1:], (statement,), None, ("none",), e, "do", statement[:1]):
                self.wrong((other,), many=count((statement,)))

    def test_es(self):
        e = self.E
        for tree in (("number", 0), ("number", 10 ** 12 - 1), ("number", 1 - 10 ** 12), ("text", ""), ("text", "x" * 40), ("truth", True),
                     ("truth", False), ("none",), ("self",), ("name", "a"), ("field", "zz"), ("new", "A"), ("new", "Thing"),
                     ("send", e, "go", ()), ("send", e, "+", (e,)), ("send", e, "=", (e, e)), ("up", "go", ()), ("up", "go", (e,)), ("list", ()),
                     ("list", (e, e)), ("block", (), ()), ("block", ("b", "c"), (("say", ("name", "b")),))):
            self.right((("do", tree),), ("a",))
        for tree in (("number", 10 ** 12), ("number", -10 ** 12), ("number", True), ("number", "1"), ("number", None), ("number", 1.0),
                     ("text", "x" * 41), ("text", "a b"), ("text", 1), ("text", None), ("truth", 1), ("truth", None), ("truth", "true"),
                     ("none", None), ("none", ()), ("self", 1), ("name", "b"), ("name", "end"), ("name", ""), ("name", None), ("name", "A"),
                     ("field", "end"), ("field", "@a"), ("field", ""), ("field", None), ("new", "a"), ("new", ""), ("new", None),
                     ("send", e, "go"), ("send", e, "go", e), ("send", e, "go", [e]), ("send", "go", ()), ("send", e, "end", ()),
                     ("send", e, ":=", ()), ("send", e, ":", ()), ("send", e, "", ()), ("send", e, None, ()), ("up", "+", ()), ("up", "end", ()),
                     ("up", e, "go", ()), ("list", e), ("list", [e]), ("list", ((),)), ("list", (("do", e),)), ("block", ("b", "b"), ()),
                     ("block", ("a", "b", "c", "d", "e"), ()), ("block", ("end",), ()), ("block", "b", ()), ("block", (), e),
                     ("block", (), (e,)), ("set", "x", e), (), None, "none", ("nil",), ("cell", 0), ["none"], (("none",),)):
            self.wrong((("do", tree),), ("a",), many=count((("do", tree),)))

    def test_parameters_and_names(self):
        self.right((), ("a", "b", "c", "d"))
        for parameters in (("a", "a"), ("a", "b", "c", "d", "e"), ("end",), ("A",), ("@a",), (1,), (None,), "a", ["a"], None, ("",)):
            self.wrong((), parameters)
        sets = tuple(("set", "n%d" % at, self.E) for at in range(8))
        self.right(sets, ("a", "b", "c", "d"))
        self.wrong(sets + (("set", "n8", self.E),), ("a", "b", "c", "d"))
        self.wrong(sets + (("try", (), "n8", ()),), ("a", "b", "c", "d"))
        self.right(sets + (("do", ("block", ("n8",), (("set", "n8", self.E),))),), ("a", "b", "c", "d"))

    def test_names_stand_for_something(self):
        say = ("say", ("name", "b"))
        block = ("do", ("block", ("b",), (say,)))
        self.right((block,))
        self.wrong((say,))
        self.wrong((block, say))
        self.right((say, ("set", "b", self.E)))
        self.right((say, ("do", ("block", (), (("try", (), "b", ()),)))))
        self.wrong((say, ("do", ("block", ("b",), (("set", "b", self.E),)))))

    def test_open_ones(self):
        for opened in (lambda inner: ("list", (inner,)), lambda inner: ("send", inner, "go", ()), lambda inner: ("up", "go", (inner,)),
                       lambda inner: ("block", (), (("do", inner),))):
            tree = self.E
            for many in range(1, 14):
                tree = opened(tree)
                (self.right if many <= 12 else self.wrong)((("do", tree),))
        for opened in (lambda inner: ("if", self.E, (inner,), ()), lambda inner: ("if", self.E, (), (inner,)),
                       lambda inner: ("while", self.E, (inner,)), lambda inner: ("try", (inner,), "e", ()),
                       lambda inner: ("try", (), "e", (inner,))):
            node = ("do", self.E)
            for many in range(1, 14):
                node = opened(node)
                (self.right if many <= 12 else self.wrong)((node,))
        self.wrong((("if", ("list", (self.E,)), (), ()),) + (deep_if(12, ("do", ("list", ()))),))
        self.right((("if", ("list", (self.E,)), (), ()),) + (deep_if(11, ("do", ("list", ()))),))

    def test_ever_so_many_nodes(self):
        """So many that they could never be gone over one by one."""
        tree = self.E
        for _ in range(12):
            tree = ("list", (tree,) * 140)
        node = ("do", self.E)
        for _ in range(12):
            node = ("if", self.E, (node,) * 140, (node,) * 140)
        block = ("do", self.E)
        for _ in range(12):
            block = ("do", ("block", (), (block,) * 140))
        for statement in (("do", tree), ("say", ("send", tree, "go", (tree,))), node, block):
            self.wrong((statement,), many=150)

    def test_nodes(self):
        self.right((("do", self.E),) * 75)
        self.wrong((("do", self.E),) * 75 + (("try", (), "e", ()),))

    def test_places(self):
        statements = (("do", self.E), ("say", self.E))
        self.right(statements, places=((1, 1), (1, 2), (2, 1), (300, 120)))
        for places in (((1, 1), (1, 2), (2, 1)), ((1, 1), (1, 2), (2, 1), (2, 2), (2, 3)), ((1, 1), (1, 1), (2, 1), (2, 2)),
                       ((1, 2), (1, 1), (2, 1), (2, 2)), ((2, 1), (1, 2), (3, 1), (3, 2)), ((0, 1), (1, 2), (2, 1), (2, 2)),
                       ((1, 0), (1, 2), (2, 1), (2, 2)), ((1, 1), (1, 2), (2, 1), (301, 2)), ((1, 1), (1, 2), (2, 1), (2, 121)),
                       ((True, 1), (1, 2), (2, 1), (2, 2)), ((1, True), (1, 2), (2, 1), (2, 2)), ((1, 1), (1, 2), (2, 1), None),
                       ((1, 1), (1, 2), (2, 1), (2,)), ((1, 1), (1, 2), (2, 1), (2, 2, 2)), ((1, 1), (1, 2), (2, 1), ("2", 2)),
                       [(1, 1), (1, 2), (2, 1), (2, 2)], ((1, 1), (1, 2), (2, 1), [2, 2]), (), "abcd",
                       ((-1, 1), (1, 2), (2, 1), (2, 2)), ((1, 1), (1, 2), (2, 1), (2, None))):
            self.wrong(statements, places=places)


def deep_if(many, inner):
    for _ in range(many):
        inner = ("if", ("none",), (inner,), ())
    return inner


def count(nodes):
    """How many nodes trees have, as far as they are some."""
    many = 0
    if isinstance(nodes, (tuple, list)):
        sorts = ("set setfield do say return raise if while try number text truth none self name field new send up list block").split()
        many += sum(count(part) for part in nodes)
        many += len(nodes) > 0 and isinstance(nodes[0], str) and nodes[0] in sorts
    return many


class ViewClausesTest(ImageCase):
    V = 6

    def test_status(self):
        for name in ("paused", "failed", "ended", "forgotten"):
            self.refused(name, (self.V, 0), *[status for status in ("paused", "failed", "Idle", "", None, 0, True, ("idle",))
                                              if status != IMAGES[name][6][0]])
        self.refused("paused", (self.V, 0), "idle", "ended")
        self.refused("failed", (self.V, 0), "idle", "ended")
        self.assert_read(bent(IMAGES["ended"], (self.V, 0), "idle"))

    def test_beats(self):
        self.refused("deep", (self.V, 1), -1, True, False, None, "9", 1.0, ())
        self.assert_read(bent(IMAGES["deep"], (self.V, 1), 10 ** 9))

    def test_said(self):
        self.refused("deep", (self.V, 2), ("a b",), ("a a",), ("a  A",), ("x" * 41,), ("a List",), ("a ",), ("-",), ("-0",), ("1-",), (None,), (1,),
                     (True,), "x", ["x"], None, ("'x",), (" ",), ("a list ",), ("a Zz",), ("-1000000000000",), ("x",) * 201, (("x",),))
        for told in (("",), ("x" * 40,), ("a A",), ("a Thing",), ("a list",), ("a block",), ("-5",), ("0",), ("-999999999999",),
                     ("007",), ("x",) * 200, ()):
            self.assert_read(bent(IMAGES["deep"], (self.V, 2), told))

    def test_last(self):
        self.refused("failed", (self.V, 3), "x" * 41, 10 ** 12, ("cell", 99), ("cell", -1), ("cell", True), ("cell", 1), ("thing", 0), 1.0, ())
        self.assert_read(bent(IMAGES["failed"], (self.V, 3), "x"))
        self.refused("ended", (self.V, 3), None, 5, ("cell", 1))

    def test_fault(self):
        worth, version, node = IMAGES["failed"][6][4]
        self.refused("failed", (self.V, 4), None, (), (worth, version), (worth, version, node, 0), (worth, 4, node), (worth, -1, node),
                     (worth, version, -1), (worth, version, 99), (worth, 5, 0),
                     (worth, version, 27), (worth, version, 28), (worth, True, node), (worth, version, True), (worth, None, node),
                     ("x" * 41, version, node), (("cell", 9), version, node), [worth, version, node], worth)
        self.assert_read(bent(IMAGES["failed"], (self.V, 4), (worth, 3, 0)))
        self.assert_read(bent(IMAGES["failed"], (self.V, 4), (worth, 0, 26)))
        for name in ("new", "paused", "ended", "forgotten"):
            self.refused(name, (self.V, 4), (None, 0, 0), (), False)

    def test_frames_just_where_it_is_paused(self):
        frames = IMAGES["deep"][6][5]
        self.refused("deep", (self.V, 5), (), frames[::-1], frames[:-1], frames[1:], list(frames), None)
        self.refused("ended", (self.V, 5), frames)
        self.refused("new", (self.V, 5), frames)

    def test_frames(self):
        frames = IMAGES["deep"][6][5]
        numbers = (-2, 99, True, None, "0", 1.0, ())
        for at, frame in enumerate(frames):
            here = (self.V, 5, at)
            self.refused("deep", here + (0,), -1, 5, *[other for other in numbers if other != frame[0]])
            self.refused("deep", here + (1,), *[other for other in (-1, 0, 1, 2, 3, *numbers) if other != frame[1]])
            right = [frame[2]]
            self.refused("deep", here + (2,), -1, *[other for other in (*range(40), *numbers) if other not in right
                                                    and not self.may_be(frames, at, other)])
            self.refused("deep", here + (3,), None, 0, ("cell", 1), ("cell", 99), ("cell",), "x", True)
            self.refused("deep", here + (4,), None, 0, ("cell", 0), ("cell", 99), ("cell",), "x", True)
            self.refused("deep", here + (5,), frame[5] + (None,), None, list(frame[5]), 0, *([()] if frame[5] else []))
            self.refused("deep", here + (6,), frame[6] + (None,), None, list(frame[6]), 0, *([()] if frame[6] else []))
            self.refused("deep", here, frame[:6], frame + (0,), list(frame), None, ())

    def may_be(self, frames, at, node):
        """Whether a frame could be at another node, too: a statement of its code, or a send that as much waits for."""
        if not isinstance(node, int) or isinstance(node, bool) or node < 0:
            return False
        stead = read_image(IMAGES["deep"])
        from sendstead.trees import code_within, nodes_of
        tree = stead.book.version_of(frames[at][0])[3]
        nodes = nodes_of(tree)
        if node >= len(nodes) or code_within(tree, node) != frames[at][1]:
            return False
        if at == len(frames) - 1:
            return nodes[node][0] in ("set", "setfield", "do", "say", "return", "raise", "if", "while", "try")
        return nodes[node][0] in ("send", "up")

    def test_waiting(self):
        told = [len(frame[6]) for frame in IMAGES["paused"][6][5]]
        self.assertEqual(told, [0, 1, 0, 0])
        path = (self.V, 5, 1, 6)
        self.refused("paused", path, (), (1, 1), (("cell", 99),), (10 ** 12,))
        self.assert_read(bent(IMAGES["paused"], path, (True,)))

    def test_deep(self):
        many = len(IMAGES["paused"][6][5])
        self.refused("paused", (5,), many - 1)
        self.assert_read(bent(IMAGES["paused"], (5,), many))

    def test_cells(self):
        cells = IMAGES["deep"][6][6]
        self.refused("deep", (self.V, 6), cells[:-1], cells + (("list", ()),), cells[::-1], (), list(cells), None, cells + (None,),
                     cells[:1] + cells[2:] + cells[1:2])
        for at, cell in enumerate(cells):
            here = (self.V, 6, at)
            self.refused("deep", here, None, (), cell[:-1], cell + (0,), list(cell), ("none",), ("thing", "A", ()), ("list", (1,) * 31),
                         ("thing", "Zz", (None, None)))
            if cell[0] == "thing":
                self.refused("deep", here + (1,), "Zz", "Thing", "C", "a", None)
                self.refused("deep", here + (2,), cell[2] + (None,), cell[2][:-1], list(cell[2]))
            if cell[0] == "names":
                self.refused("deep", here + (1,), cell[1] + (None,), cell[1][:-1] if cell[1] else None, list(cell[1]))
                self.refused("deep", here + (2,), ("cell", 0), ("cell", 99), *([None] if cell[2] else [("cell", at)]))
            if cell[0] == "block":
                self.refused("deep", here + (1,), 3, 4, 5, -1, True, None)
                self.refused("deep", here + (2,), -1, 0, 99, True, None)
                self.refused("deep", here + (3,), None, ("cell", at), ("cell", 99))
                self.refused("deep", here + (4,), None, ("cell", 0), ("cell", 99), ("cell", at))
        self.assertEqual({cell[0] for cell in cells}, {"thing", "names", "block", "list"})

    def test_a_method_is_no_block(self):
        stead = Stead()
        stead.load("a", "kind A under Thing method go : return { | } end end")
        stead.begin("A", "go")
        stead.run(1)
        image = stead.image()
        self.assertEqual(image[6][6][0][:3], ("block", 0, 1))
        for node in (-1, 0, 2, -2):
            self.assert_no_image(bent(image, (6, 6, 0, 2), node))

    def test_surroundings_are_no_worths(self):
        stead = Stead()
        stead.load("a", "kind A under Thing field f method go a : b := { | say a } do [ a ( b call ) ] end end")
        stead.begin("A", "go", (1,))
        stead.run(2)
        image = stead.image()
        self.assertEqual([cell[0] for cell in image[6][6]], ["thing", "names", "names", "block"])
        for path in ((6, 5, 0, 5, 0), (6, 5, 0, 6, 0), (6, 6, 0, 2, 0), (6, 6, 1, 1, 0)):
            for way in (False, True):
                self.assertIsNotNone(read_image(bent(image, path, ("cell", 0)), quick=way))
            self.assert_no_image(bent(image, path, ("cell", 1)))
        stead.forget()
        image = stead.image()
        surroundings = (("names", (1, None), None),)
        self.assert_no_image(bent(bent(image, (6, 3), ("cell", 0)), (6, 6), surroundings))
        self.assert_no_image(bent(bent(bent(image, (6, 4), (("cell", 0), 0, 0)), (6, 6), surroundings), (6, 0), "failed"))

    def test_weight(self):
        cells = IMAGES["deep"][6][6]
        weight = sum({"thing": 1 + len(cell[-1] or ()), "list": 1 + len(cell[1] if cell[0] == "list" else ()), "block": 1, "names": 0}[cell[0]]
                     for cell in cells)
        self.assert_read(bent(IMAGES["deep"], (4,), weight))
        self.refused("deep", (4,), weight - 1)

    def test_plain_worths_in_cells(self):
        for at, cell in enumerate(IMAGES["deep"][6][6]):
            for path in paths(cell):
                if at_path(cell, path) is None and len(path) == 2:
                    here = (self.V, 6, at) + path
                    self.refused("deep", here, 10 ** 12, "x" * 41, "a b", ("cell", 99), ("cell", -1), (), ("list", ()))
                    self.assert_read(bent(IMAGES["deep"], here, "x" * 40))

    def test_numbers_of_cells(self):
        """Two cells that change places are numbered another way than one comes to them."""
        image = IMAGES["deep"]
        cells = image[6][6]
        for one in range(len(cells)):
            for other in range(one):
                text = repr(image[6]).replace("('cell', %d)" % one, "CELL").replace("('cell', %d)" % other, "('cell', %d)" % one)
                view = eval(text.replace("CELL", "('cell', %d)" % other))
                changed = list(view[6])
                changed[one], changed[other] = changed[other], changed[one]
                self.assert_no_image(bent(image, (6,), view[:6] + (tuple(changed),)))

    def test_cells_that_lead_to_themselves_alone(self):
        """Nobody comes to them from a root, though each of them is led to."""
        for name, image in IMAGES.items():
            cells = image[6][6]
            at = len(cells)
            for more in ((("list", (("cell", at),)),), (("list", (("cell", at + 1),)), ("list", (("cell", at),))),
                         (("list", (("cell", at), ("cell", at + 1))), ("list", ())), (("thing", "Thing", ()),)):
                self.assert_no_image(bent(image, (6, 6), cells + more))
        ended = bent(IMAGES["ended"], (6, 3), ("cell", 0))
        ring = (("list", (("cell", 1), ("cell", 0))), ("list", (("cell", 0), ("cell", 1), ("cell", 1))))
        self.assert_read(bent(ended, (6, 6), ring))
        self.assert_no_image(bent(bent(ended, (6, 6), ring), (6, 3), None))
        self.assert_no_image(bent(bent(ended, (6, 6), ring), (6, 3), ("cell", 1)))


class DrawnImagesTest(ImageCase):
    def test_bent_ones_are_refused_or_stand(self):
        """Whatever is changed, it's no image, or one that is written again as it was."""
        chance = random.Random(2)
        parts = [None, True, False, 0, 1, 2, -1, 5, "", "x", "A", "go", ("cell", 0), ("cell", 1), (), (None,), "paused", ("none",)]
        read = 0
        for name, image in IMAGES.items():
            everywhere = list(paths(image))
            written = read_image(image, quick=True)
            for _ in range(250):
                other = bent(image, chance.choice(everywhere), chance.choice(parts))
                try:
                    stead = read_image(other)
                except SteadError as refusal:
                    self.assertIs(type(refusal), NoImage)
                else:
                    read += 1
                    self.assertEqual(repr(stead.image()), repr(other))
                    # Steads are equal where their images are the same, kind for kind.
                    self.assertIs(stead == written, repr(other) == repr(image))
                    self.assertIs(written == stead, repr(other) == repr(image))
        self.assertGreater(read, 5)

    def test_what_waits_in_es_within_es(self):
        text = ("kind A under Thing method to : say 1 return 4 end\nmethod go : x := [ 1 [ 2 3 ( 0 + [ ( self to ) 5 ] ) ] 6 ] end\n"
                "method on : x := [ 1 [ 2 3 ( { a b c | say a } call 7 ( self to ) 9 ) ] ( self what ) ] end end")
        for message, many in (("go", 4), ("on", 5)):
            for quick in (False, True):
                stead = Stead(quick=quick)
                stead.load("a", text)
                stead.begin("A", message)
                stead.run(1)
                self.assertEqual(len(stead.view()[5][0][6]), many)
                for way in (False, True):
                    other = read_image(stead.image(), quick=way)
                    twin = stead.twin()
                    self.assertEqual((other.run(9), twin.run(9)), (2, 2) if message == "go" else (3, 3))
                    self.assertEqual(other.view(), twin.view())
                for wrong in ((1,) * (many - 1), (1,) * (many + 1), ()):
                    self.assert_no_image(bent(stead.image(), (6, 5, 0, 6), wrong))

    def test_one_that_a_pair_wrote(self):
        pair = Pair(TEXT)
        pair.begin("A", "go", (1,))
        for _ in range(20):
            for quick in (False, True):
                self.assertEqual(read_image(pair.image(), quick=quick), pair.plain)
            if pair.view()[0] == "paused":
                pair.run(1)


if __name__ == "__main__":
    unittest.main()
