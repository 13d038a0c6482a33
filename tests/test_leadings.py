"""The leading's judge: [11] and [32]."""

import random
import unittest

from sendstead.leadings import leads

BIG = 10 ** 12
PLAIN = (None, True, False, 0, 1, -1, 42, BIG - 1, 1 - BIG, "", "a", "Ab_9", "x" * 40)
NOT_PLAIN = (
    BIG, -BIG, BIG ** 9, "a b", "a-b", "'a", "\n", "x" * 41, "x" * 4000, ("cell", 0), ("cell", 1), (), [], {}, set(),
    b"", b"a",
    1.0, 0.5, float("nan"), 1j, object(), int, (None,), [None], range(1), Exception(),
)


class SmallBook:
    """What a leading asks of a book: rows of (kind, parent, own fields)."""

    def __init__(self, *rows):
        self.rows = {kind: (parent, tuple(own.split())) for kind, parent, own in rows}

    def kinds(self):
        return tuple(self.rows)

    def parent(self, kind):
        return self.rows[kind][0]

    def own(self, kind):
        return self.rows[kind][1]

    def fields(self, kind):
        return self.fields(self.parent(kind)) + self.own(kind) if kind in self.rows else ()


class AlwaysEqual:
    def __eq__(self, other):
        return True

    def __len__(self):
        return 1


class LeadsCase(unittest.TestCase):
    def assert_let_by(self, before, behind, thing):
        self.assertIs(leads(before, behind, thing), True, thing)

    def assert_refused(self, before, behind, thing):
        self.assertIs(leads(before, behind, thing), False, thing)

    def assert_just(self, before, behind, rows, worths):
        """The paper of these rows is let by with these worths, and no other."""
        for worth in PLAIN:
            paper = tuple(row + (worth,) for row in rows)
            let_by = worth in worths and any(worth is told for told in worths)
            self.assertIs(leads(before, behind, paper), let_by, paper)
        for worth in NOT_PLAIN:
            self.assert_refused(before, behind, tuple(row + (worth,) for row in rows))


class LetByTest(LeadsCase):
    def test_nothing_changed(self):
        for rows in ((), (("A", "Thing", "x y"), ("B", "A", "z"))):
            self.assert_let_by(SmallBook(*rows), SmallBook(*rows), ())

    def test_parent_without_fields(self):
        before = SmallBook(("A", "Thing", "x"), ("B", "Thing", ""), ("C", "Thing", "y"))
        behind = SmallBook(("A", "Thing", "x"), ("B", "Thing", ""), ("C", "B", "y"))
        self.assert_let_by(before, behind, ())

    def test_field_put_in(self):
        before = SmallBook(("A", "Thing", ""))
        behind = SmallBook(("A", "Thing", "x"))
        self.assert_just(before, behind, (("A", (), ("x",)),), PLAIN)

    def test_field_put_in_behind_others(self):
        before = SmallBook(("A", "Thing", "x"), ("B", "A", "y"), ("C", "Thing", "z"))
        behind = SmallBook(("A", "Thing", "x"), ("B", "A", "y a"), ("C", "Thing", "z"))
        self.assert_just(before, behind, (("B", ("x", "y"), ("x", "y", "a")),), PLAIN)

    def test_field_put_in_with_kinds_below(self):
        before = SmallBook(("C", "B", "z"), ("A", "Thing", "x"), ("D", "Thing", "x"), ("B", "A", ""))
        behind = SmallBook(("C", "B", "z"), ("A", "Thing", "x a"), ("D", "Thing", "x"), ("B", "A", ""))
        rows = (("C", ("x", "z"), ("x", "a", "z")), ("A", ("x",), ("x", "a")), ("B", ("x",), ("x", "a")))
        self.assert_just(before, behind, rows, PLAIN)

    def test_field_lost(self):
        before = SmallBook(("A", "Thing", "x y z"), ("B", "A", "b"))
        behind = SmallBook(("A", "Thing", "x z"), ("B", "A", "b"))
        rows = (("A", ("x", "y", "z"), ("x", "z")), ("B", ("x", "y", "z", "b"), ("x", "z", "b")))
        self.assert_just(before, behind, rows, (None,))
        behind = SmallBook(("A", "Thing", "x y z"), ("B", "A", ""))
        self.assert_just(before, behind, (("B", ("x", "y", "z", "b"), ("x", "y", "z")),), (None,))

    def test_another_parent(self):
        before = SmallBook(("A", "Thing", "x"), ("B", "Thing", "y z"), ("C", "A", "c"), ("D", "C", "d"))
        behind = SmallBook(("A", "Thing", "x"), ("B", "Thing", "y z"), ("C", "B", "c"), ("D", "C", "d"))
        rows = (("C", ("x", "c"), ("y", "z", "c")), ("D", ("x", "c", "d"), ("y", "z", "c", "d")))
        self.assert_just(before, behind, rows, (None,))

    def test_thing_for_a_parent(self):
        before = SmallBook(("B", "A", "y"), ("A", "Thing", "x"))
        behind = SmallBook(("B", "Thing", "y"), ("A", "Thing", "x"))
        self.assert_just(before, behind, (("B", ("x", "y"), ("y",)),), (None,))
        self.assert_just(behind, before, (("B", ("y",), ("x", "y")),), (None,))

    def test_same_fields_in_another_order(self):
        before = SmallBook(("A", "Thing", "x"), ("B", "A", "y"), ("C", "Thing", "y"), ("D", "C", ""))
        behind = SmallBook(("A", "Thing", ""), ("B", "A", "y x"), ("C", "Thing", "y"), ("D", "C", ""))
        self.assert_just(before, behind, (("A", ("x",), ()), ("B", ("x", "y"), ("y", "x"))), PLAIN)

    def test_names_of_the_arguments(self):
        book = SmallBook(("A", "Thing", "x"))
        self.assertIs(leads(before=book, behind=book, thing=()), True)


class RefusedTest(LeadsCase):
    def setUp(self):
        self.before = SmallBook(("C", "B", "z"), ("A", "Thing", "x"), ("D", "Thing", "x"), ("B", "A", ""))
        self.behind = SmallBook(("C", "B", "z"), ("A", "Thing", "x a"), ("D", "Thing", "x"), ("B", "A", ""))
        self.rows = (
            ("C", ("x", "z"), ("x", "a", "z"), 1), ("A", ("x",), ("x", "a"), 1), ("B", ("x",), ("x", "a"), 1),
        )
        self.assert_let_by(self.before, self.behind, self.rows)

    def assert_wrong(self, *papers):
        for paper in papers:
            self.assert_refused(self.before, self.behind, paper)

    def assert_wrong_row(self, *rows):
        """None of these may stand in the place of the paper's second row."""
        for row in rows:
            self.assert_wrong((self.rows[0], row, self.rows[2]))

    def test_rows_left_out(self):
        first, second, third = self.rows
        self.assert_wrong((), (first,), (second,), (third,), (first, second), (first, third), (second, third))

    def test_rows_put_in_twice(self):
        first, second, third = self.rows
        self.assert_wrong((first, first, second, third), (first, second, second, third), (first, second, third, third))
        self.assert_wrong((first, second, third, first), self.rows + self.rows, (first, first, third))

    def test_rows_turned_about(self):
        first, second, third = self.rows
        self.assert_wrong((first, third, second), (second, first, third), (third, second, first))
        self.assert_wrong((second, third, first), (third, first, second))

    def test_rows_of_other_kinds(self):
        first, second, third = self.rows
        same = ("D", ("x",), ("x",), 1)
        self.assert_wrong((first, second, same, third), (first, second, same), (same,) + self.rows, self.rows + (same,))
        for kind in ("B", "C", "D", "E", "Thing", "a", "", None, 0, b"A", ("A",)):
            self.assert_wrong_row((kind,) + second[1:])

    def test_fields_more_or_less(self):
        self.assert_wrong_row(
            ("A", (), ("x", "a"), 1), ("A", ("x", "a"), ("x", "a"), 1), ("A", ("x", "x"), ("x", "a"), 1),
            ("A", ("y",), ("x", "a"), 1), ("A", ("x",), ("x",), 1), ("A", ("x",), (), 1), ("A", ("x",), ("a",), 1),
            ("A", ("x",), ("x", "a", "b"), 1), ("A", ("x",), ("x", "a", "a"), 1), ("A", ("x",), ("a", "x"), 1),
            ("A", ("x",), ("x", "b"), 1), ("A", ("x", "a"), ("x",), 1), ("A", ("@x",), ("x", "a"), 1),
        )

    def test_wrong_kinds_of_fields(self):
        self.assert_wrong_row(
            ("A", "x", ("x", "a"), 1), ("A", ("x",), "xa", 1), ("A", ["x"], ("x", "a"), 1),
            ("A", ("x",), ["x", "a"], 1),
            ("A", {"x"}, ("x", "a"), 1), ("A", {"x": 0}, ("x", "a"), 1), ("A", (b"x",), ("x", "a"), 1),
            ("A", (("x",),), ("x", "a"), 1), ("A", None, ("x", "a"), 1), ("A", ("x",), None, 1), ("A", ("x",), 2, 1),
            ("A", (AlwaysEqual(),), ("x", "a"), 1), ("A", AlwaysEqual(), ("x", "a"), 1),
        )

    def test_rows_that_are_longer_or_shorter(self):
        self.assert_wrong_row(
            (), ("A",), ("A", ("x",)), ("A", ("x",), ("x", "a")), ("A", ("x",), ("x", "a"), 1, 1),
            ("A", ("x",), ("x", "a"), 1, None),
        )
        for length in (0, 1, 3, 5):
            self.assert_wrong(tuple((row + (1,))[:length] for row in self.rows))

    def test_another_worth_in_one_row(self):
        for k in range(3):
            for worth in (None, 0, 2, True, False, "1", "", ("cell", 1), BIG, 1.0):
                rows = list(self.rows)
                rows[k] = rows[k][:3] + (worth,)
                self.assert_wrong(tuple(rows))

    def test_truths_and_numbers_as_worths(self):
        pairs = ((1, True), (True, 1), (0, False), (False, 0), (0, None), (None, False), ("", None), ("1", 1))
        for worth, other in pairs:
            rows = tuple(row[:3] + (worth,) for row in self.rows)
            self.assert_let_by(self.before, self.behind, rows)
            for k in range(3):
                self.assert_wrong(rows[:k] + (rows[k][:3] + (other,),) + rows[k + 1:])

    def test_lists_for_tuples(self):
        self.assert_wrong(list(self.rows), [list(row) for row in self.rows], tuple(list(row) for row in self.rows))
        for k in range(3):
            self.assert_wrong(self.rows[:k] + (list(self.rows[k]),) + self.rows[k + 1:])

    def test_whatever_else(self):
        deep_tuple, deep_list = (), []
        for _ in range(59):
            deep_tuple, deep_list = (deep_tuple,), [deep_list]
        first, second, third = self.rows
        for thing in (
            None, True, False, 0, 1, 3, -1, BIG, "", "A", "x" * 1000, b"", 1.5, [], {}, set(), frozenset(), (),
            (None,), (1, 2, 3),
            ((),), ((), (), ()), ("ABC", "ABC", "ABC"), ("ABCD", "ABCD", "ABCD"), deep_tuple, deep_list,
            dict.fromkeys(self.rows),
            frozenset(self.rows), object(), AlwaysEqual(), (AlwaysEqual(),) * 3, self.before, leads, int,
            iter(self.rows),
            (self.rows,), self.rows[0], zip(self.rows), (first, None, third), (first, 1, third), (first, "A", third),
            (None, second, third), (deep_tuple, second, third), (first, deep_list, third),
            (first, AlwaysEqual(), third),
        ):
            self.assert_wrong(thing)

    def test_whatever_else_where_nothing_changed(self):
        book = SmallBook(("A", "Thing", "x"))
        row = ("A", ("x",), ("x",), None)
        for thing in (
            None, False, True, 0, "", [], {}, set(), b"", ((),), (None,), [[]], (row,), row, AlwaysEqual(), range(0),
        ):
            self.assert_refused(book, book, thing)
            self.assert_refused(SmallBook(), SmallBook(), thing)

    def test_the_other_way_round(self):
        self.assert_refused(self.behind, self.before, self.rows)
        turned = tuple((kind, behind, ahead, worth) for kind, ahead, behind, worth in self.rows)
        self.assert_refused(self.before, self.behind, turned)
        self.assert_refused(self.behind, self.before, turned)
        self.assert_let_by(self.behind, self.before, tuple(row[:3] + (None,) for row in turned))

    def test_papers_of_other_books(self):
        self.assert_refused(self.before, self.before, self.rows)
        self.assert_refused(self.behind, self.behind, self.rows)


class MadeUpEditsTest(LeadsCase):
    def made_book(self, chance):
        """Rows of kinds, a parent of which may stand anywhere, without rings."""
        names = ["A", "B", "C", "D", "E"][:chance.randrange(1, 6)]
        rows = [
            [name, chance.choice(["Thing"] + names[:at]), [name.lower() + str(k) for k in range(chance.randrange(3))]]
            for at, name in enumerate(names)
        ]
        chance.shuffle(rows)
        return rows

    def edited(self, chance, rows):
        """The rows behind an edit, and whether it puts a field in."""
        rows = [list(row) for row in rows]
        row = chance.choice(rows)
        edit = chance.choice(("field", "lost", "under"))
        if edit == "field":
            row[2] = row[2] + ["new"]
        elif edit == "lost":
            row[2] = row[2][1:]
        else:
            row[1] = chance.choice(["Thing"] + [other[0] for other in rows if other[0] < row[0]])
        return rows, edit == "field"

    def test_made_up_edits(self):
        chance = random.Random(11)
        lengths = []
        for _ in range(500):
            rows = self.made_book(chance)
            now, put_in = self.edited(chance, rows)
            before = SmallBook(*[(kind, parent, " ".join(own)) for kind, parent, own in rows])
            behind = SmallBook(*[(kind, parent, " ".join(own)) for kind, parent, own in now])
            changed = [
                (kind, before.fields(kind), behind.fields(kind)) for kind, _, _ in rows
                if before.fields(kind) != behind.fields(kind)
            ]
            lengths.append(len(changed))
            if changed:
                self.assert_just(before, behind, changed, PLAIN if put_in else (None,))
                for k in range(len(changed)):
                    left_out = changed[:k] + changed[k + 1:]
                    self.assert_refused(before, behind, tuple(row + (None,) for row in left_out))
            else:
                self.assert_let_by(before, behind, ())
        self.assertEqual(set(range(5)) - set(lengths), set())


if __name__ == "__main__":
    unittest.main()
