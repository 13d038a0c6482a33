"""Plain worths, and when two things are the same, kind for kind: [1] and [32]."""

import unittest

from sendstead.worths import is_plain, same

BIG = 10 ** 12


class PlainTest(unittest.TestCase):
    def test_plain_worths(self):
        for thing in (None, True, False, 0, 7, -7, BIG - 1, 1 - BIG, "", "a", "aZ_09", "end", "x" * 40):
            self.assertIs(is_plain(thing), True, thing)

    def test_all_else(self):
        for thing in (
            BIG, -BIG, "x" * 41, " ", "a b", "'a", "a-b", "a\n", "%", ("cell", 0), (), (1,), [], {}, set(), b"a",
            1.0, object(), str,
        ):
            self.assertIs(is_plain(thing), False, thing)


class SameTest(unittest.TestCase):
    THINGS = (
        None, True, False, 0, 1, -1, BIG, "", "a", "0", "None", (), (None,), (0,), (False,), (1,), (True,), (1, 2),
        (2, 1),
        ("a", (1, ())), ("a", (1, (0,))), ("a", (True, ())),
    )

    def test_same_just_by_themselves(self):
        for k, one in enumerate(self.THINGS):
            for m, other in enumerate(self.THINGS):
                self.assertIs(same(one, other), k == m, (one, other))

    def test_nothing_else_is_same(self):
        for thing in ([], [1], {}, set(), b"", b"a", 1.0, 0.0, object(), int):
            self.assertIs(same(thing, thing), False)
            self.assertIs(same((thing,), (thing,)), False)
            for one in self.THINGS:
                self.assertIs(same(one, thing), False)
                self.assertIs(same(thing, one), False)


if __name__ == "__main__":
    unittest.main()
