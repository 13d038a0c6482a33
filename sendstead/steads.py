"""Steads: where programs run and are changed while they run."""

from sendstead.books import Book
from sendstead.errors import Busy, Count, Full, Idle, Many, NoDeed, NoFrame, NoKind, NoMethod, NoName, Worn
from sendstead.plain import PlainWay
from sendstead.quick import QuickWay
from sendstead.states import FAILED, IDLE, PAUSED, State
from sendstead.trees import METHOD_CODE, found_name
from sendstead.worths import is_number_within, is_plain, is_row, is_whole

ROOM = 120
DEEP = 20
DEEDS = 600
MOST_ROOM = 400
MOST_DEEP = 40
MOST_BEATS = 2000


class Stead:
    """A book of its own, a room, and a run that goes on by beats. What is refused changes nothing."""

    def __init__(self, *, quick=False, room=ROOM, deep=DEEP):
        if not is_number_within(room, 1, MOST_ROOM) or not is_number_within(deep, 1, MOST_DEEP):
            raise Many("no stead has such a room, or so many frames")
        self.book = Book()
        self._quick = quick
        self._deeds_done = 0
        self._state = State(self.book, room, deep)
        self._way = QuickWay(self._state) if quick else PlainWay(self._state)

    def stand_as(self, book, view):
        """Take this book for one's own, and stand as a view tells."""
        self.book = book
        state = self._state
        state.book = book
        state.take_view(view)

    def _must_be_right(self, checks):
        """Refuse a deed when the stead is worn, or what was handed in isn't as told."""
        if self._deeds_done >= DEEDS:
            raise Worn("as many deeds are done as ever may be")
        if not all(checks):
            raise NoDeed("what was handed in isn't as told")

    def _must_be_paused(self):
        if self._state.status != PAUSED:
            raise Idle("no run is paused")

    def _frame(self, k):
        """Frame k."""
        frames = self._state.frames
        if not is_number_within(k, 0, len(frames) - 1):
            raise NoFrame("there is no such frame")
        return frames[k]

    def begin(self, kind, message, worths=()):
        """Begin a run: send a message to a new thing, or to the last answer where kind is None."""
        self._must_be_right([kind is None or is_text(kind), is_text(message), are_plain(worths)])
        state = self._state
        if state.status == PAUSED:
            raise Busy("a run is paused")
        found = self._kind_to_begin(kind)
        version = self.book.finds(found, message)
        if version is None:
            raise NoMethod("the kind finds no such message")
        if len(self._way.parameters(version, METHOD_CODE)) != len(worths):
            raise Count("there are more or fewer worths than parameters")
        if kind is not None:
            weight = 1 + len(self.book.fields(kind))
            if state.room.weight_reached([state.last]) + weight > state.room.most:
                raise Full("a new thing doesn't fit")
        state.begin_anew()
        me = state.last if kind is None else self._way.new_thing(kind)
        self._way.begin_frame(version, METHOD_CODE, me, None, worths)
        self._way.settle()
        self._deeds_done += 1

    def _kind_to_begin(self, kind):
        """The kind at which the message of a run is looked up; NoKind where there is none."""
        if kind is not None:
            # The book refuses what is none of its kinds.
            self.book.own(kind)
            return kind
        cell = self._state.room.cell_of(self._state.last)
        if cell is None or cell[0] != "thing":
            raise NoKind("the last answer is no thing")
        return cell[1]

    def run(self, beats, *, marks=()):
        """Go on for so many beats, or till a marked row of a page; how many statements began."""
        self._must_be_right([is_number_within(beats, 0, MOST_BEATS), are_marks(marks)])
        self._must_be_paused()
        begun = self._way.go_on(beats, marks)
        self._deeds_done += 1
        return begun

    def again(self, k):
        """Begin frame k anew, without those behind it."""
        self._must_be_right([])
        self._must_be_paused()
        frame = self._frame(k)
        version, outer = frame.version, None
        if frame.node == METHOD_CODE:
            version = self._version_anew(frame)
        else:
            _, _, outer = self._state.room.cell_of(frame.surroundings)
        del self._state.frames[k:]
        self._way.begin_frame(version, frame.node, frame.me, outer, frame.given)
        self._way.settle()
        self._deeds_done += 1

    def _version_anew(self, frame):
        """The version that the self of a method's frame finds now for its message."""
        _, message, _, _, _ = self.book.version_of(frame.version)
        _, kind, _ = self._state.room.cell_of(frame.me)
        version = self.book.finds(kind, message)
        if version is None:
            raise NoMethod("the frame's self finds no such message any more")
        if len(self._way.parameters(version, METHOD_CODE)) != len(frame.given):
            raise Count("there are more or fewer worths than parameters now")
        return version

    def named(self, k, word, worth):
        """Let a name of frame k have a worth."""
        self._must_be_right([is_text(word), is_plain(worth)])
        self._must_be_paused()
        frame = self._frame(k)
        found = found_name(self._way.scopes(frame.version, frame.node), word)
        if found is None:
            raise NoName("the frame has no such name")
        self._way.set_name_of(frame, *found, worth)
        self._deeds_done += 1

    def forget(self):
        """Give up the run, or what is known of its end."""
        self._must_be_right([])
        if self._state.status == IDLE:
            raise Idle("there is no run to forget")
        self._state.forget_run()
        self._deeds_done += 1

    def load(self, name, text):
        """Load a page; the versions that came."""
        self._must_be_right([is_text(name), is_text(text)])
        versions = self.book.load(name, text)
        self._way.forget_places()
        self._deeds_done += 1
        return versions

    def gone(self, kind, message):
        """Take a method out of its kind; the leading's paper."""
        self._must_be_right([is_text(kind), is_text(message)])
        return self._edit(lambda book: book.gone(kind, message))

    def field(self, kind, word, worth):
        """Give a kind a further own field; the leading's paper."""
        self._must_be_right([is_text(kind), is_text(word), is_plain(worth)])
        return self._edit(lambda book: book.field(kind, word, worth))

    def lost(self, kind, word):
        """Take an own field out of a kind; the leading's paper."""
        self._must_be_right([is_text(kind), is_text(word)])
        return self._edit(lambda book: book.lost(kind, word))

    def under(self, kind, parent):
        """Put a kind under another parent; the leading's paper."""
        self._must_be_right([is_text(kind), is_text(parent)])
        return self._edit(lambda book: book.under(kind, parent))

    def _edit(self, edit):
        """Do an edit of the book, and lead the things over."""
        # On a copy first, as the room may refuse what the book doesn't.
        paper = edit(self.book.copy())
        self._state.lead_over(paper)
        edit(self.book)
        self._way.forget_places()
        self._deeds_done += 1
        return paper

    def sweep(self):
        """Let cells go that can't be reached; the sweep's paper."""
        self._must_be_right([])
        paper = self._state.sweep_paper()
        self._deeds_done += 1
        return paper

    def view(self):
        """How the stead stands."""
        return self._state.told()

    def where(self, k):
        """The page, row and column at which frame k is."""
        frame = self._frame(k)
        return self._place(frame.version, frame.at)

    def fault_place(self):
        """The page, row and column of the node at which a run failed."""
        if self._state.status != FAILED:
            raise Idle("no run has failed")
        _, version, node = self._state.fault
        return self._place(version, node)

    def _place(self, version, node):
        _, _, page, _, places = self.book.version_of(version)
        return (page, *places[node])

    def looked(self):
        """How many times a message was looked up by walking a line."""
        return self._way.many_looked

    def places(self):
        """The papers of all places that remember something."""
        return self._way.places()

    def stops(self):
        """For each frame its version, its node and the row at which it is."""
        return self._way.stops()

    def cells(self):
        """All cells by their addresses."""
        return self._state.room.told()

    def image(self):
        """The stead written down."""
        book, state = self.book, self._state
        versions = tuple([book.version_of(v) for v in range(len(book))])
        return ("image", kinds_told(book), versions, book.pages(), state.room.most, state.deep, state.told())

    def twin(self):
        """Another stead that stands alike."""
        other = Stead(quick=self._quick, room=self._state.room.most, deep=self._state.deep)
        other.stand_as(self.book.copy(), self.view())
        other._deeds_done = self._deeds_done
        return other

    def __len__(self):
        return len(range(self._deeds_done))

    def __eq__(self, other):
        return isinstance(other, Stead) and self._is_told_as(other)

    def _is_told_as(self, other):
        """Whether another stead's image is the same, kind for kind."""
        state, another = self._state, other._state
        bounds = (state.room.most, state.deep)
        if bounds != (another.room.most, another.deep) or not self.book.is_told_as(other.book):
            return False
        return state.is_told_as(another)


def kinds_told(book):
    """The kinds of a book as images tell them."""
    return tuple([(kind, book.parent(kind), book.own(kind), heads_told(book, kind)) for kind in book.kinds()])


def heads_told(book, kind):
    """The messages of a kind's own methods with their versions, by messages, rising."""
    return tuple([(message, book.finds(kind, message)) for message in book.messages(kind)])


def is_text(thing):
    """Whether it is a text, of whatever signs."""
    return isinstance(thing, str)


def are_plain(thing):
    """Whether it is a tuple of plain worths."""
    return isinstance(thing, tuple) and all([is_plain(worth) for worth in thing])


def are_marks(thing):
    """Whether it is a tuple of pages' names with rows."""
    if not isinstance(thing, tuple) or not all([is_row(part, 2) for part in thing]):
        return False
    return all([is_text(page) and is_whole(row) for page, row in thing])
