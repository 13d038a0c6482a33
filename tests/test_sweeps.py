"""The judge of sweeps: [30] and [32]."""

import random
import unittest

from sendstead.sweeps import sweep_stands

BIG = 10 ** 12


def cell(address):
    return ("cell", address)


# Each form of cell; some lead to themselves and round, one can't be reached, and one moves far away.
BEFORE = (
    (0, ("thing", "Box", (None, True, cell(3)))),
    (3, ("list", (cell(3), cell(0), -5, "text", cell(5)))),
    (4, ("list", (cell(99),))),
    (5, ("block", 0, 2, cell(0), cell(8))),
    (8, ("names", (1, cell(5)), cell(9))),
    (9, ("names", (), None)),
    (12, ("thing", "Thing", ())),
)
ROOTS = (0, 8)
MOVES = ((0, 7), (3, 0), (5, 10 ** 15), (8, 1), (9, 9))
BEHIND = (
    (0, ("list", (cell(0), cell(7), -5, "text", cell(10 ** 15)))),
    (1, ("names", (1, cell(10 ** 15)), cell(9))),
    (7, ("thing", "Box", (None, True, cell(0)))),
    (9, ("names", (), None)),
    (10 ** 15, ("block", 0, 2, cell(7), cell(1))),
)
PAPER = (BEFORE, ROOTS, MOVES, BEHIND)


class SweepCase(unittest.TestCase):
    def assert_let_by(self, *paper):
        self.assertIs(sweep_stands(paper), True, paper)

    def assert_refused(self, *paper):
        kept = repr(paper)
        self.assertIs(sweep_stands(paper), False, paper)
        self.assertEqual(repr(paper), kept)

    def alone(self, told):
        """The paper of one cell alone that can be reached and stays."""
        return ((0, told),), (0,), ((0, 0),), ((0, told),)


class LetByTest(SweepCase):
    def test_papers(self):
        self.assert_let_by(*PAPER)
        self.assert_let_by((), (), (), ())
        self.assert_let_by(BEFORE, (), (), ())
        # More may be moved than the roots reach.
        self.assert_let_by(BEFORE, (), MOVES, BEHIND)
        self.assert_let_by(BEFORE, ROOTS, MOVES + ((12, 2),), BEHIND[:2] + ((2, BEFORE[6][1]),) + BEHIND[2:])

    def test_forms(self):
        for told in (("thing", "A", ()), ("thing", "Thing", (None,) * 8), ("thing", "A" + "b" * 11, (True, False)),
                     ("list", ()), ("list", (0,) * 30), ("list", (BIG - 1, 1 - BIG, "", "x" * 40, "A_9")),
                     ("names", (), None), ("names", (None,) * 12, cell(0)), ("block", 0, 0, cell(0), cell(0)),
                     ("block", 10 ** 20, 10 ** 20, cell(0), cell(0)), ("list", (cell(0),)), ("thing", "Aa1", (cell(0),))):
            self.assert_let_by(*self.alone(told))
            # Also in a cell that can't be reached.
            self.assert_let_by(((5, told),), (), (), ())

    def test_far_addresses(self):
        self.assert_let_by(((10 ** 30, ("list", ())),), (10 ** 30,), ((10 ** 30, 10 ** 31),), ((10 ** 31, ("list", ())),))

    def test_it_tells_true_for_made_up_sweeps(self):
        chance = random.Random(5)
        for _ in range(300):
            paper = made_sweep(chance)
            kept = repr(paper)
            self.assertIs(sweep_stands(paper), True, paper)
            self.assertEqual(repr(paper), kept)


class BentTest(SweepCase):
    def test_addresses_before(self):
        self.assert_refused(BEFORE[::-1], ROOTS, MOVES, BEHIND)
        self.assert_refused(BEFORE[:1] + BEFORE, ROOTS, MOVES, BEHIND)
        self.assert_refused(BEFORE[:2] + ((3, ("list", ())),) + BEFORE[2:], ROOTS, MOVES, BEHIND)
        self.assert_refused(BEFORE + ((12, ("list", ())),), ROOTS, MOVES, BEHIND)
        for address in (-1, True, False, None, "0", "", cell(0), 0.0, (), [0]):
            self.assert_refused(((address, ("list", ())),), (), (), ())
            self.assert_refused(((address, ("list", ())),) + BEFORE[1:], (), (), ())

    def test_roots(self):
        for roots in ((8, 0), (0, 0), (0, 8, 8), (12,), (0, 4), (1,), (-1,), (False,), (0, "8"), (None,), [0, 8], None,
                      "", 0, ((0,),), cell(0), (0.0,)):
            self.assert_refused(BEFORE, roots, MOVES, BEHIND)

    def test_moves(self):
        for at in range(len(MOVES)):
            moves = MOVES[:at] + MOVES[at + 1:]
            behind = tuple(row for row in BEHIND if row[0] != MOVES[at][1])
            # Without it a cell that is moved leads to what isn't.
            self.assert_refused(BEFORE, (), moves, behind)
            self.assert_refused(BEFORE, (), moves, BEHIND)
            for moved in ((MOVES[at][0], -1), (MOVES[at][0], True), (MOVES[at][0], None), MOVES[at][:1],
                          MOVES[at] + (0,), list(MOVES[at]), None, "ab", (str(MOVES[at][0]), MOVES[at][1])):
                self.assert_refused(BEFORE, ROOTS, MOVES[:at] + (moved,) + MOVES[at + 1:], BEHIND)
        self.assert_refused(BEFORE, ROOTS, MOVES[::-1], BEHIND)
        self.assert_refused(BEFORE, ROOTS, MOVES[:1] + MOVES, BEHIND)
        self.assert_refused(BEFORE, ROOTS, list(MOVES), BEHIND)
        self.assert_refused(BEFORE, ROOTS, dict(MOVES), BEHIND)

    def test_what_is_moved_stands_in_before(self):
        self.assert_refused(BEFORE, ROOTS, MOVES + ((20, 20),), BEHIND)
        self.assert_refused(BEFORE, ROOTS, MOVES + ((20, 20),), BEHIND[:4] + ((20, ("list", ())),) + BEHIND[4:])
        self.assert_refused((), (), ((0, 0),), ())
        self.assert_refused((), (0,), ((0, 0),), ((0, ("list", ())),))

    def test_two_are_moved_to_one_address(self):
        before = ((0, ("list", ())), (1, ("list", ())))
        self.assert_let_by(before, (0, 1), ((0, 1), (1, 0)), before)
        self.assert_refused(before, (0, 1), ((0, 1), (1, 1)), before)
        self.assert_refused(before, (0, 1), ((0, 1), (1, 1)), before[1:])
        self.assert_refused(before, (0, 1), ((0, 0), (0, 1)), before)

    def test_behind(self):
        for at, (address, told) in enumerate(BEHIND):
            self.assert_refused(BEFORE, ROOTS, MOVES, BEHIND[:at] + BEHIND[at + 1:])
            for row in ((address + 1, told), (address, ("list", (1,))), (address, None), (address, list(told)),
                        [address, told], (address, told, 0), (address,), None, (address, told[:-1])):
                self.assert_refused(BEFORE, ROOTS, MOVES, BEHIND[:at] + (row,) + BEHIND[at + 1:])
        self.assert_refused(BEFORE, ROOTS, MOVES, BEHIND[:2] + ((2, BEFORE[6][1]),) + BEHIND[2:])
        self.assert_refused(BEFORE, ROOTS, MOVES, BEHIND[::-1])
        self.assert_refused(BEFORE, ROOTS, MOVES, BEHIND + BEHIND[-1:])
        self.assert_refused(BEFORE, ROOTS, MOVES, list(BEHIND))
        self.assert_refused(BEFORE, ROOTS, MOVES, dict(BEHIND))
        self.assert_refused(BEFORE, ROOTS, MOVES, None)

    def test_addresses_behind(self):
        text = repr(BEHIND)
        for old, new in (("('cell', 7)", "('cell', 0)"), ("('cell', 9)", "('cell', 8)"), ("('cell', 9)", "None"),
                         ("('cell', 0)", "('cell', 3)"), ("-5", "-4"), ("-5", "'x'"), ("True", "1"), ("1, ('cell'", "True, ('cell'"),
                         ("'text'", "None"), ("'Box'", "'Bag'"), ("0, 2", "0, 3"), ("0, 2", "1, 2"), ("None", "False")):
            self.assertIn(old, text)
            self.assert_refused(BEFORE, ROOTS, MOVES, eval(text.replace(old, new, 1)))

    def test_kinds_behind(self):
        told = ("list", (1, 0, True, False))
        for worths in ((True, 0, True, False), (1, False, True, False), (1, 0, 1, False), (1, 0, True, 0), (1.0, 0, True, False)):
            self.assert_refused(((0, told),), (0,), ((0, 0),), ((0, ("list", worths)),))
        self.assert_refused(((0, told),), (0,), ((0, 0),), ((False, told),))


class FormsTest(SweepCase):
    def assert_no_cell(self, told):
        self.assert_refused(*self.alone(told))
        self.assert_refused(((5, told),), (), (), ())

    def test_no_cells(self):
        for told in (None, (), "list", 0, True, ("cell", 0), ("other", ()), ("other", (), None), (1, ()), (None,), ("list",), ("thing",), ("names",),
                     ("block",), ["list", ()], {}, {"list": ()}, (("list", ()),), ("List", ()), (b"list", ()), ("", ())):
            self.assert_no_cell(told)

    def test_things(self):
        for told in (("thing", "A", (None,) * 9), ("thing", "a", ()), ("thing", "", ()), ("thing", "A_b", ()), ("thing", "A b", ()),
                     ("thing", "A" + "b" * 12, ()), ("thing", None, ()), ("thing", 1, ()), ("thing", ("A",), ()),
                     ("thing", "A", []), ("thing", "A", None), ("thing", "A", ""), ("thing", "A"), ("thing", "A", (), ()),
                     ("thing", (), "A"), ("thing", True, ())):
            self.assert_no_cell(told)

    def test_lists(self):
        for told in (("list", (0,) * 31), ("list", []), ("list", None), ("list", (), ()), ("list", "ab"), ("list", 0),
                     ("list", {0: 0})):
            self.assert_no_cell(told)

    def test_names(self):
        for told in (("names", (0,) * 13, None), ("names", ()), ("names", [], None), ("names", (), 0), ("names", (), True),
                     ("names", (), ()), ("names", (), "x"), ("names", (), ("cell", -1)), ("names", (), None, None),
                     ("names", None, None), ("names", (), ["cell", 0])):
            self.assert_no_cell(told)

    def test_blocks(self):
        right = ("block", 1, 2, cell(0), cell(0))
        for at in (1, 2):
            for part in (-1, True, False, None, "1", 1.0, (), cell(0)):
                self.assert_no_cell(right[:at] + (part,) + right[at + 1:])
        for at in (3, 4):
            for part in (None, 0, "x", True, ("cell",), ("cell", 0, 0), ("Cell", 0), ("cell", -1), ["cell", 0], ()):
                self.assert_no_cell(right[:at] + (part,) + right[at + 1:])
        for told in (right[:4], right + (None,), list(right)):
            self.assert_no_cell(told)

    def test_worths(self):
        for worth in (BIG, -BIG, "x" * 41, "a b", "a-b", "\n", "'a", 1.0, [], (), {}, set(), b"", ("cell",), ("cell", -1),
                      ("cell", True), ("cell", None), ("cell", "0"), ("cell", 0, 0), ["cell", 0], ("list", ()), object(),
                      ("cell", 0.0), (0, "cell"), ("CELL", 0), ("cell", ("cell", 0))):
            for told in (("thing", "A", (worth,)), ("list", (1, worth)), ("names", (worth, None), None)):
                self.assert_no_cell(told)


class WhateverElseTest(SweepCase):
    def test_whatever_else(self):
        deep = ()
        for _ in range(60):
            deep = (deep,)
        for thing in (None, True, False, 0, 4, "", "abcd", (), [], {}, set(), b"abcd", 1.0, object(), PAPER[:3], PAPER + ((),),
                      list(PAPER), (PAPER,), (None,) * 4, (0,) * 4, ("",) * 4, ([],) * 4, ({},) * 4, (True,) * 4,
                      ((),) * 3, ((),) * 5, deep, (deep,) * 4, PAPER[::-1], ((0,),) * 4, (((),),) * 4, (((0, 0),),) * 4):
            self.assertIs(sweep_stands(thing), False, thing)

    def test_each_part_another(self):
        for at in range(4):
            for part in (None, True, 0, "", "ab", [], {}, set(), b"", 1.0, object(), ((),), (None,), ((0,),), ((0, 0, 0),),
                         list(PAPER[at]), PAPER[at] + (None,), (PAPER[at],)):
                self.assert_refused(*PAPER[:at], part, *PAPER[at + 1:])


def made_sweep(chance):
    """A paper of a sweep of made-up cells, by a walk from some roots."""
    addresses = sorted(chance.sample(range(40), chance.randrange(1, 12)))

    def worth():
        plain = (None, True, False, 0, 1, "t", "", -3)
        return cell(chance.choice(addresses)) if chance.random() < 0.5 else chance.choice(plain)

    def made_cell():
        worths = tuple(worth() for _ in range(chance.randrange(4)))
        inner = cell(chance.choice(addresses))
        return chance.choice((("thing", "Box", worths), ("list", worths), ("names", worths, chance.choice((None, inner))),
                              ("block", 1, 2, inner, cell(chance.choice(addresses)))))

    cells = {address: made_cell() for address in addresses}
    roots = sorted(chance.sample(addresses, chance.randrange(len(addresses))))
    reached, todo = set(), list(roots)
    while todo:
        address = todo.pop()
        if address not in reached:
            reached.add(address)
            todo += cells_in(cells[address])
    places = dict(zip(sorted(reached), chance.sample(range(50), len(reached))))

    def moved(part):
        if isinstance(part, tuple):
            return cell(places[part[1]]) if part[:1] == ("cell",) else tuple(map(moved, part))
        return part

    behind = sorted((places[address], moved(cells[address])) for address in reached)
    return tuple(sorted(cells.items())), tuple(roots), tuple(sorted(places.items())), tuple(behind)


def cells_in(part):
    if not isinstance(part, tuple):
        return []
    return [part[1]] if part[:1] == ("cell",) else [address for inner in part for address in cells_in(inner)]


if __name__ == "__main__":
    unittest.main()
