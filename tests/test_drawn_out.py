"""Long drawn runs of all deeds in any order: both ways, twins, images and sweeps stand alike, and as the reference does."""

import random
import unittest

from sendstead.books import Book
from sendstead.desks import deed_text, do, read_deeds
from sendstead.errors import Full, SteadError
from sendstead.images import read_image
from sendstead.leadings import leads
from sendstead.places import place_stands, stops_stand
from sendstead.steads import Stead
from sendstead.sweeps import sweep_stands
from tests.made_programs import Maker, made_deed, tried
from tests.reference import Reference


def made_program(chance):
    """A program that a book takes."""
    while True:
        text = Maker(chance).program()
        try:
            Book().load("main", text)
            return text
        except SteadError:
            pass


def done_by_reference(reference, stead, deed):
    """What the reference tells of a deed that a stead did, or refused for room."""
    word, *rest = deed
    if word == "run":
        return reference.run(*rest)
    if word in ("begin", "again", "forget"):
        answer = getattr(reference, word)(*rest)
        return Full if answer is False else None
    if word == "name":
        return reference.named(*rest)
    if word == "load":
        return reference.book.load(*rest)
    if word == "sweep":
        return None
    paper = reference.edit(word, rest)
    return Full if paper is None else paper


class DrawnOutTest(unittest.TestCase):
    def test_plain_and_quick_and_reference(self):
        chance = random.Random(1)
        seen = {}
        for _ in range(24):
            room, deep = chance.choice(((120, 20), (30, 5), (60, 8), (400, 40), (8, 3), (15, 20)))
            self.draw_out(chance, room, deep, 60, seen)
        for word in ("nomethod", "count", "operand", "bynought", "deep", "full", "notruth", "paused", "ended", "idle"):
            self.assertGreater(seen.get(word, 0), 0, (word, seen))

    def draw_out(self, chance, room, deep, many, seen):
        """Many deeds on a plain and a quick stead and on the reference; seen counts what they led to."""
        plain, quick = Stead(room=room, deep=deep), Stead(quick=True, room=room, deep=deep)
        reference = Reference(room, deep)
        text = made_program(chance)
        for stead in (plain, quick, reference.book):
            stead.load("main", text)
        for number in range(many):
            deed = made_deed(chance, plain, number)
            self.do_deed(plain, quick, reference, deed)
            status, _, _, _, fault, _, _ = plain.view()
            word = fault[0] if fault and isinstance(fault[0], str) else status
            seen[word] = seen.get(word, 0) + 1
            if number % 7 == 0:
                self.check_others(plain, quick)
            if number % 11 == 0:
                plain, quick = self.other_steads(chance, plain, quick)
                if plain.looked() == 0:
                    reference.many_looked = 0

    def do_deed(self, plain, quick, reference, deed):
        ahead = plain.book.copy()
        told = tried(lambda: do(plain, deed))
        self.assertEqual(tried(lambda: do(quick, deed)), told, deed)
        if told[0] == "done" or told[1] is Full:
            paper = done_by_reference(reference, plain, deed)
            if deed[0] != "sweep":
                self.assertEqual(paper, told[1], deed)
            else:
                self.assertIs(sweep_stands(told[1]), True)
        self.assertEqual(plain.view(), reference.view(), deed)
        self.assertEqual(plain.looked(), reference.many_looked)
        if told[0] == "done" and deed[0] in ("field", "lost", "under", "gone"):
            self.assertIs(leads(ahead, plain.book, told[1]), True)
        self.assert_alike(plain, quick)
        self.assertEqual(read_deeds(deed_text(deed)), (deed,))

    def assert_alike(self, plain, quick):
        self.assertEqual(plain.view(), quick.view())
        self.assertEqual(plain.image(), quick.image())
        self.assertTrue(plain == quick)
        self.assertEqual((len(plain), plain.book.stamp()), (len(quick), quick.book.stamp()))
        frames = plain.view()[5]
        self.assertEqual([plain.where(k) for k in range(len(frames))], [quick.where(k) for k in range(len(frames))])
        self.assertEqual(tried(plain.fault_place), tried(quick.fault_place))
        self.assertEqual((plain.places(), plain.stops()), ((), ()))
        self.assertIs(stops_stand(quick.book, quick.view(), quick.stops()), True)
        for paper in quick.places():
            self.assertIs(place_stands(quick.book, paper), True, paper)
        self.assertLessEqual(quick.looked(), plain.looked() if quick.looked() else 0)

    def check_others(self, plain, quick):
        """Twins, swept or not, and steads that were read stand alike and go on alike."""
        for stead in (plain, quick):
            ahead = stead.view()
            twin = stead.twin()
            self.assertEqual(twin.sweep()[3], tuple(enumerate(ahead[6])))
            self.assertEqual((twin.view(), twin == stead, len(twin)), (ahead, True, len(stead) + 1))
            self.assertEqual((stead.twin().places(), stead.twin().looked()), ((), 0))
            for way in (False, True):
                read = read_image(stead.image(), quick=way)
                self.assertEqual((read.view(), read.image(), len(read), read.looked()), (ahead, stead.image(), 0, 0))
                other = stead.twin()
                deed = ("run", 20, ())
                self.assertEqual(tried(lambda: do(read, deed)), tried(lambda: do(other, deed)))
                self.assertEqual(read.view(), other.view())

    def other_steads(self, chance, plain, quick):
        """Steads that stand alike, perhaps others: twins, or read from the image of the other way."""
        choice = chance.randrange(3)
        if choice == 0:
            return plain.twin(), quick.twin()
        if choice == 1:
            return read_image(quick.image()), read_image(plain.image(), quick=True)
        return plain, quick


if __name__ == "__main__":
    unittest.main()
