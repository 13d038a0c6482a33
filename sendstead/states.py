"""States: how a stead stands, whichever way it runs."""

from sendstead.cells import addresses_among, moved_worths, worths_in
from sendstead.errors import Full
from sendstead.raising import Raised
from sendstead.rooms import Room

IDLE = "idle"
PAUSED = "paused"
ENDED = "ended"
FAILED = "failed"
MOST_SAID = 200


class Frame:
    """A method or block that was begun. me is its self, surroundings leads to its names' worths."""

    def __init__(self, version, node, at, me, surroundings, given, waiting):
        self.version = version
        self.node = node
        self.at = at
        self.me = me
        self.surroundings = surroundings
        self.given = given
        self.waiting = list(waiting)

    def roots(self):
        """The worths by which it leads to cells, in order."""
        return (self.me, self.surroundings, *self.given, *self.waiting)

    def told_with(self, numbers):
        """The frame as views tell it, with the cells' numbers by addresses."""
        me, surroundings = moved_worths((self.me, self.surroundings), numbers)
        given = moved_worths(self.given, numbers)
        return (self.version, self.node, self.at, me, surroundings, given, moved_worths(self.waiting, numbers))


class State:
    """A stead's book, room and run."""

    def __init__(self, book, most, deep):
        self.book = book
        self.room = Room(most)
        self.deep = deep
        self.status = IDLE
        self.beats = 0
        self.said = []
        self.last = None
        self.fault = None
        self.frames = []

    def take_view(self, view):
        """Stand as a view tells."""
        self.status, self.beats, said, self.last, self.fault, frames, cells = view
        self.said = list(said)
        self.frames = [Frame(*frame) for frame in frames]
        self.room.fill(dict(enumerate(cells)))

    def roots(self):
        """The worths from which cells are reached, in order."""
        roots = [self.last]
        if self.fault is not None:
            roots.append(self.fault[0])
        for frame in self.frames:
            roots.extend(frame.roots())
        return roots

    def told(self):
        """How it stands, as a view tells it."""
        numbers = self.room.reached(self.roots())
        (last,) = moved_worths((self.last,), numbers)
        fault = self.fault
        if fault is not None:
            worth, version, node = fault
            fault = (*moved_worths((worth,), numbers), version, node)
        frames = tuple([frame.told_with(numbers) for frame in self.frames])
        return (self.status, self.beats, tuple(self.said), last, fault, frames, self.room.moved(numbers))

    def is_told_as(self, other):
        """Whether views tell the same of another state, kind for kind."""
        # Most states are told apart by this already, and views take longer.
        if self.status != other.status or self.beats != other.beats or len(self.frames) != len(other.frames):
            return False
        one, another = self.told(), other.told()
        return one == another and truths_in(one) == truths_in(another)

    def make_room(self, more, taken):
        """Raise 'full unless what weighs so much fits in; the taken worths can still be reached."""
        room = self.room
        if room.weight + more > room.most:
            room.keep(room.reached([*self.roots(), *taken]))
            if room.weight + more > room.most:
                raise Raised("full")

    def tidy(self):
        """Let cells go that can't be reached, where there may be many; nothing is being worked out now."""
        if self.room.has_many():
            self.room.keep(self.room.reached(self.roots()))

    def sweep_paper(self):
        """Let all cells go that can't be reached, and move the others together; the sweep's paper."""
        before = self.room.told()
        roots = self.roots()
        numbers = self.room.reached(roots)
        self.take_view(self.told())
        moves = tuple([(address, numbers[address]) for address in sorted(list(numbers))])
        return before, tuple(sorted(set(addresses_among(roots)))), moves, self.room.told()

    def begin_anew(self):
        """A run begins."""
        self.status = PAUSED
        self.fault = None
        self.said = []

    def forget_run(self):
        """Nothing is known of a run but its last answer and what was said."""
        self.status = IDLE
        self.fault = None
        self.frames = []

    def lead_over(self, paper):
        """Give all things the fields that a leading's paper tells; Full where they would weigh too much."""
        cells = self.room.held
        led = {address: led_over(cell, paper) for address, cell in cells.items()}
        if self.room.weight_with(led, self.roots()) > self.room.most:
            raise Full("what can be reached would weigh too much")
        self.room.fill(led)

    def end(self, worth):
        """The run ended with this answer."""
        self.status = ENDED
        self.last = worth

    def fail(self, worth, version, node):
        """The run failed, as this worth was raised at a node of a version."""
        self.status = FAILED
        self.fault = (worth, version, node)

    def add_said(self, text):
        """Say a text."""
        if len(self.said) >= MOST_SAID:
            raise Raised("long")
        self.said.append(text)


def led_over(cell, paper):
    """The cell with the fields that a leading's paper tells for its kind."""
    if cell[0] != "thing":
        return cell
    _, kind, worths = cell
    for changed, ahead, behind, worth in paper:
        if changed == kind:
            held = dict(zip(ahead, worths))
            return ("thing", kind, tuple([held.get(word, worth) for word in behind]))
    return cell


def worths_told(view):
    """All worths in a view that may be plain ones, in order."""
    _, _, _, last, fault, frames, cells = view
    worths = [last]
    if fault is not None:
        worths.append(fault[0])
    for _, _, _, _, _, given, waiting in frames:
        worths.extend(given + waiting)
    for cell in cells:
        if cell[0] != "block":
            worths.extend(cell[1] if cell[0] == "names" else worths_in(cell))
    return worths


def truths_in(view):
    """Of all worths of a view whether they are truths, which are equal to numbers for Python."""
    return [isinstance(worth, bool) for worth in worths_told(view)]
