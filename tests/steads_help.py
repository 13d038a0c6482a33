"""What several tests of steads need: a plain and a quick stead side by side with the same deeds, and parts of images."""

import unittest

from sendstead.errors import SteadError
from sendstead.steads import Stead


def outcome(act):
    """What an act tells or raises."""
    try:
        return act(), None
    except SteadError as refusal:
        return None, refusal


class Pair:
    """A plain and a quick stead. Each call is done on both, must tell or refuse alike, and leave them alike."""

    def __init__(self, *texts, room=120, deep=20):
        self.plain, self.quick = Stead(room=room, deep=deep), Stead(quick=True, room=room, deep=deep)
        for at, text in enumerate(texts):
            self.load("abcdefgh"[at], text)

    def __getattr__(self, name):
        def both(*worths, **more):
            ahead = everything(self.plain), everything(self.quick)
            told, refusal = outcome(lambda: getattr(self.plain, name)(*worths, **more))
            other, wrong = outcome(lambda: getattr(self.quick, name)(*worths, **more))
            assert type(refusal) is type(wrong) and str(refusal) == str(wrong), (name, worths, refusal, wrong)
            if name not in ("cells", "looked", "places", "stops"):
                assert repr(told) == repr(other) or name in ("sweep", "twin"), (name, worths, told, other)
            self.check()
            if refusal is not None:
                assert (everything(self.plain), everything(self.quick)) == ahead, (name, worths, refusal)
                raise refusal
            return told
        return both

    def check(self):
        one, other = self.plain, self.quick
        assert one.view() == other.view() and repr(one.image()) == repr(other.image()), (one.view(), other.view())
        assert one == other and len(one) == len(other)
        for k in range(-1, len(one.view()[5]) + 1):
            assert repr(outcome(lambda: one.where(k))) == repr(outcome(lambda: other.where(k)))
        assert repr(outcome(one.fault_place)) == repr(outcome(other.fault_place))

    def __len__(self):
        return len(self.plain)

    @property
    def book(self):
        return self.quick.book


def everything(stead):
    """All that a stead tells."""
    return (stead.view(), stead.image(), stead.places(), stead.looked(), stead.stops(), stead.book.stamp(), len(stead),
            stead.book.shown(), outcome(stead.fault_place)[0])


def at_path(thing, path):
    for at in path:
        thing = thing[at]
    return thing


def bent(thing, path, part):
    """The thing with another part at a path."""
    if not path:
        return part
    return thing[:path[0]] + (bent(thing[path[0]], path[1:], part),) + thing[path[0] + 1:]


def paths(thing, ahead=()):
    """The paths of all parts of a thing."""
    yield ahead
    if isinstance(thing, tuple):
        for at, part in enumerate(thing):
            yield from paths(part, ahead + (at,))


class SteadCase(unittest.TestCase):
    def assert_refused(self, error, stead, deed, *worths, **more):
        """A deed is refused with just this error, and changes nothing."""
        ahead = everything(stead.quick if isinstance(stead, Pair) else stead)
        with self.assertRaises(SteadError) as caught:
            getattr(stead, deed)(*worths, **more)
        self.assertIs(type(caught.exception), error, (deed, worths, caught.exception))
        self.assertEqual(everything(stead.quick if isinstance(stead, Pair) else stead), ahead)


def in_short_rows(text):
    """The text with rows that are too long broken at blanks."""
    rows = []
    for row in text.split("\n"):
        while len(row) > 120:
            at = row.rindex(" ", 0, 120)
            rows.append(row[:at])
            row = row[at + 1:]
        rows.append(row)
    return "\n".join(rows)


def pair_with(statements, *, parameters="", fields="", more="", room=120, deep=20):
    """A pair whose kind A has a method go with these statements."""
    rows = " ".join("field " + word for word in fields.split())
    text = "kind A under Thing %s\nmethod go %s :\n%s\nend\nend\n%s" % (rows, parameters, statements, more)
    return Pair(in_short_rows(text), room=room, deep=deep)


def begun(statements, *worths, **more):
    """A pair with such a method that was begun."""
    pair = pair_with(statements, **more)
    pair.begin("A", "go", worths)
    return pair


def ended(statements, *worths, **more):
    """The last answer of such a method; it must end."""
    pair = begun(statements, *worths, **more)
    pair.run(2000)
    view = pair.view()
    assert view[0] == "ended", view
    return view[3]


def raised(statements, *worths, **more):
    """What such a method raises, and at which node of which version; it must fail."""
    pair = begun(statements, *worths, **more)
    pair.run(2000)
    view = pair.view()
    assert view[0] == "failed" and view[5] == (), view
    return view[4]


def said(statements, *worths, **more):
    """What such a method says."""
    pair = begun(statements, *worths, **more)
    pair.run(2000)
    return pair.view()[2]
