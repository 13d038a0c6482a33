"""Ways: what both ways to run have in common."""

from sendstead.answers import answer_of, said_text
from sendstead.books import THING
from sendstead.bounds import MOST_WORTHS_OF_LIST
from sendstead.raising import Raised
from sendstead.states import PAUSED, Frame
from sendstead.trees import METHOD_CODE, parameters_of, scopes_of


class Way:
    """A way to run. Classes below it tell how it goes on in a frame, and how methods and fields are found.

    They have do_statement (do the statement that begins now, till the next one is to begin or all is
    over), settle (go on so far from where a frame was begun), frame_begun (a frame was begun), go_behind (the
    answer that a frame awaited waits in it now), take_raised (a frame goes on with the second statements of
    a try, if one takes what was raised), look (find a version) and field_number.
    """

    def __init__(self, state):
        self.state = state
        self.many_looked = 0
        self.scopes_kept = {}

    def go_on(self, beats, marks):
        """Do statements till so many have begun or a marked one is to begin, or all is over; how many began."""
        state = self.state
        begun = 0
        while state.status == PAUSED and begun < beats and not (begun > 0 and self.is_marked(marks)):
            state.tidy()
            begun += 1
            state.beats += 1
            self.do_statement()
        return begun

    def frame(self):
        """The innermost frame."""
        return self.state.frames[-1]

    def version_told(self, version):
        """What the book tells of a version."""
        return self.state.book.version_of(version)

    def is_marked(self, marks):
        """Whether the statement that is to begin stands in a marked row."""
        if len(marks) == 0:
            return False
        frame = self.frame()
        _, _, page, _, places = self.version_told(frame.version)
        row, _ = places[frame.at]
        return (page, row) in marks

    def scopes(self, version, code):
        """The rows of names that a code of a version can name."""
        key = (version, code)
        if key not in self.scopes_kept:
            _, _, _, tree, _ = self.version_told(version)
            self.scopes_kept[key] = scopes_of(tree, code)
        return self.scopes_kept[key]

    def parameters(self, version, code):
        """The parameters of a code of a version."""
        _, _, _, tree, _ = self.version_told(version)
        return parameters_of(tree, code)

    def begin_frame(self, version, code, me, outer, given):
        """Begin a method or block."""
        names = self.scopes(version, code)[0]
        worths = (*given, *[None for _ in names[len(given):]])
        surroundings = self.state.room.put_cell(("names", worths, outer))
        frame = Frame(version, code, None, me, surroundings, given, ())
        self.state.frames.append(frame)
        self.frame_begun(frame)

    def call_frame(self, node, version, code, me, outer, worths):
        """Begin a method or block whose answer is awaited at a node."""
        if len(self.parameters(version, code)) != len(worths):
            raise Raised("count")
        if len(self.state.frames) >= self.state.deep:
            raise Raised("deep")
        frame = self.frame()
        frame.at = node
        self.begin_frame(version, code, me, outer, worths)

    def send(self, node, receiver, message, worths):
        """Send a message: a frame is begun, or the answer waits at once."""
        cell = self.state.room.cell_of(receiver)
        if cell is not None and cell[0] == "thing":
            version = self.look(cell[1], message)
            if version is not None:
                self.call_frame(node, version, METHOD_CODE, receiver, None, worths)
                return
        if cell is not None and cell[0] == "block" and message == "call":
            _, version, code, me, surroundings = cell
            self.call_frame(node, version, code, me, surroundings, worths)
            return
        self.put_worth(node, answer_of(self.state, receiver, message, worths))

    def send_up(self, node, message, worths):
        """Send a message to self, found from the parent of the version's kind on."""
        frame = self.frame()
        kind, _, _, _, _ = self.version_told(frame.version)
        version = self.look(self.state.book.parent(kind), message)
        if version is None:
            raise Raised("nomethod")
        self.call_frame(node, version, METHOD_CODE, frame.me, None, worths)

    def put_worth(self, node, worth):
        """The worth of a node waits now."""
        frame = self.frame()
        frame.at = node
        frame.waiting.append(worth)
        self.go_behind(frame)

    def take_waiting(self, many):
        """So many of the worths that wait, which are used now."""
        frame = self.frame()
        first = len(frame.waiting) - many
        worths = tuple(frame.waiting[first:])
        del frame.waiting[first:]
        return worths

    def answer(self, worth):
        """The innermost frame answers."""
        frames = self.state.frames
        frames.pop()
        if frames:
            frames[-1].waiting.append(worth)
            self.go_behind(frames[-1])
        else:
            self.state.end(worth)

    def unwind(self, worth, node):
        """A worth was raised at a node of the innermost frame."""
        frames = self.state.frames
        version = frames[-1].version
        at = node
        while frames:
            if self.take_raised(frames[-1], at, worth):
                return
            frames.pop()
            if frames:
                at = frames[-1].at
        self.state.fail(worth, version, node)

    def named_cell(self, frame, steps):
        """The surroundings so many steps outward of a frame's, as a worth."""
        surroundings = frame.surroundings
        for _ in range(steps):
            _, _, surroundings = self.state.room.cell_of(surroundings)
        return surroundings

    def name_worth(self, steps, number):
        """The worth of a name."""
        _, worths, _ = self.state.room.cell_of(self.named_cell(self.frame(), steps))
        return worths[number]

    def set_name(self, steps, number, worth):
        """Let a name have a worth."""
        self.set_name_of(self.frame(), steps, number, worth)

    def set_name_of(self, frame, steps, number, worth):
        """Let a name that a frame can name have a worth."""
        surroundings = self.named_cell(frame, steps)
        _, worths, outer = self.state.room.cell_of(surroundings)
        changed = (*worths[:number], worth, *worths[number + 1:])
        self.state.room.change(surroundings, ("names", changed, outer))

    def field_worth(self, word):
        """The worth of a field of self."""
        _, kind, worths = self.state.room.cell_of(self.frame().me)
        return worths[self.field_number(kind, word)]

    def set_field(self, word, worth):
        """Let a field of self have a worth."""
        me = self.frame().me
        _, kind, worths = self.state.room.cell_of(me)
        number = self.field_number(kind, word)
        self.state.room.change(me, ("thing", kind, (*worths[:number], worth, *worths[number + 1:])))

    def new_thing(self, kind):
        """A new thing of a kind."""
        fields = fields_of(self.state.book, kind)
        self.state.make_room(1 + len(fields), ())
        return self.state.room.put_cell(("thing", kind, tuple([None for _ in fields])))

    def new_list(self, worths):
        """A new list of worths."""
        if len(worths) > MOST_WORTHS_OF_LIST:
            raise Raised("long")
        self.state.make_room(1 + len(worths), worths)
        return self.state.room.put_cell(("list", worths))

    def new_block(self, node):
        """A new block, made in the innermost frame."""
        self.state.make_room(1, ())
        frame = self.frame()
        return self.state.room.put_cell(("block", frame.version, node, frame.me, frame.surroundings))

    def say(self, worth):
        """Say a worth."""
        self.state.add_said(said_text(self.state.room, worth))


def fields_of(book, kind):
    """The fields of a kind, or of Thing, which has none."""
    return () if kind == THING else book.fields(kind)
