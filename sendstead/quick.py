"""The quick way: it goes by the rows of the small machine, with places that remember what they found."""

from sendstead.raising import Raised
from sendstead.rows import rows_of
from sendstead.states import PAUSED
from sendstead.trees import codes_of
from sendstead.ways import Way, fields_of


class Code:
    """The rows of a code. first is the number of its first row among those of all codes of the version."""

    def __init__(self, rows, first):
        self.rows = rows
        self.first = first
        # Of each statement the row at which it begins, of each send and up the one that awaits.
        self.beats_at = {row[0]: number for number, row in enumerate(rows) if row[1] == "beat"}
        self.awaits_at = {row[0]: number for number, row in enumerate(rows) if row[1] in ("send", "up")}
        self.takers = takers_among(rows)


def takers_among(rows):
    """Of each node the row at which what is raised there is taken, or None."""
    takers = {}
    open_tries = [None]
    for row in rows:
        if row[1] == "untry":
            open_tries.pop()
        # A try's own node stands outside of its first statements, as its first row does.
        takers.setdefault(row[0], open_tries[-1])
        if row[1] == "try":
            open_tries.append(row[2])
    return takers


def codes_with_rows(tree):
    """The codes of a method by their nodes."""
    codes = {}
    first = 0
    for node in codes_of(tree):
        codes[node] = Code(rows_of(tree, node), first)
        first += len(codes[node].rows)
    return codes


class QuickWay(Way):
    """Runs row by row. row is the number of the one that is next in the innermost frame.

    remembered has for a version and the number of a row among all of its rows what the place there
    remembers: (kind, what).
    """

    def __init__(self, state):
        Way.__init__(self, state)
        self.codes = {}
        self.row = 0
        self.remembered = {}

    def code(self, frame):
        """The code of a frame."""
        version = frame.version
        if version not in self.codes:
            _, _, _, tree, _ = self.version_told(version)
            self.codes[version] = codes_with_rows(tree)
        return self.codes[version][frame.node]

    def do_statement(self):
        """Do the statement that begins now, till the next one is to begin or all is over."""
        frame = self.frame()
        self.row = self.code(frame).beats_at[frame.at] + 1
        self.settle()

    def settle(self):
        """Go on till a statement is to begin or all is over."""
        while self.state.status == PAUSED:
            frame = self.frame()
            row = self.code(frame).rows[self.row]
            if row[1] == "beat":
                frame.at = row[0]
                return
            self.row += 1
            try:
                self.do_row(frame, *row)
            except Raised as raised:
                self.unwind(raised.worth, row[0])

    def frame_begun(self, _):
        """A frame was begun."""
        self.row = 0

    def go_behind(self, frame):
        """What the innermost frame awaited waits in it now."""
        self.row = self.code(frame).awaits_at[frame.at] + 1

    def take_raised(self, frame, at, worth):
        """Let a try take what was raised, if one does; whether it did."""
        taker = self.code(frame).takers[at]
        if taker is None:
            return False
        frame.waiting.clear()
        frame.waiting.append(worth)
        self.row = taker
        return True

    def do_row(self, frame, node, word, *rest):
        """Do a row of the machine; the one behind it is next unless it says otherwise."""
        if word in ("send", "up"):
            self.do_sending(node, word, *rest)
        elif word in ("jump", "unless"):
            self.do_leap(word, *rest)
        elif word in ("drop", "say", "return", "raise", "setname", "setfield"):
            (worth,) = self.take_waiting(1)
            self.do_use(word, worth, rest)
        elif word not in ("try", "untry"):
            frame.waiting.append(self.worth_for(node, word, rest))

    def do_sending(self, node, word, message, count):
        """Send a message to a worth, or up to self."""
        worths = self.take_waiting(count)
        if word == "up":
            self.send_up(node, message, worths)
        else:
            (receiver,) = self.take_waiting(1)
            self.send(node, receiver, message, worths)

    def do_leap(self, word, target):
        """Go on at another row, always or unless a truth waits that is true."""
        if word == "unless":
            (worth,) = self.take_waiting(1)
            if not isinstance(worth, bool):
                raise Raised("notruth")
            if worth:
                return
        self.row = target

    def do_use(self, word, worth, rest):
        """Use the worth that waited."""
        if word == "say":
            self.say(worth)
        elif word == "return":
            self.answer(worth)
        elif word == "raise":
            raise Raised(worth)
        elif word == "setname":
            self.set_name(*rest, worth)
        elif word == "setfield":
            self.set_field(rest[0], worth)

    def worth_for(self, node, word, rest):
        """The worth that a row puts behind those that wait."""
        if word == "push":
            return rest[0]
        if word == "self":
            return self.frame().me
        if word == "name":
            return self.name_worth(*rest)
        if word == "field":
            return self.field_worth(rest[0])
        if word == "new":
            return self.new_thing(rest[0])
        if word == "list":
            return self.new_list(self.take_waiting(rest[0]))
        return self.new_block(node)

    def place_now(self):
        """Where the place of the row that is done now is kept."""
        frame = self.frame()
        return frame.version, self.code(frame).first + self.row - 1

    def look(self, kind, message):
        """The version that a kind finds for a message, or None; the place may remember it."""
        place = self.place_now()
        known, version = self.remembered.get(place, (None, None))
        if known == kind:
            return version
        self.many_looked += 1
        version = self.state.book.finds(kind, message)
        if version is not None:
            self.remembered[place] = (kind, version)
        return version

    def field_number(self, kind, word):
        """The number of a field among those of a kind; the place may remember it."""
        place = self.place_now()
        known, number = self.remembered.get(place, (None, None))
        if known == kind:
            return number
        fields = fields_of(self.state.book, kind)
        if word not in fields:
            raise Raised("nofield")
        self.remembered[place] = (kind, fields.index(word))
        return fields.index(word)

    def forget_places(self):
        """Let all places remember nothing."""
        self.remembered.clear()

    def stops(self):
        """For each frame its version, its node and the row at which it is."""
        frames = self.state.frames
        outer = [(frame, self.code(frame).awaits_at) for frame in frames[:-1]]
        inner = [(frame, self.code(frame).beats_at) for frame in frames[-1:]]
        return tuple([(frame.version, frame.node, rows[frame.at]) for frame, rows in outer + inner])

    def places(self):
        """The papers of all places that remember something, by version and row."""
        return tuple([(*place, *self.remembered[place]) for place in sorted(list(self.remembered))])
