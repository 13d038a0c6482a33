"""A second stead for tests: it works trees out by itself, straight after [12] to [20], with Python's own objects.

Only books, their edits and the places of nodes are the program's. Runs are generators that stop ahead of each beat.
"""

import sys

from sendstead.books import Book

sys.setrecursionlimit(10000)
BIG = 10 ** 12


class Thing:
    def __init__(self, kind, fields):
        self.kind, self.worths = kind, {word: None for word in fields}


class List:
    def __init__(self, items):
        self.items = list(items)


class Names:
    def __init__(self, words, worths, outer):
        self.words, self.outer = list(words), outer
        self.worths = list(worths) + [None] * (len(words) - len(worths))


class Block:
    def __init__(self, version, node, me, names):
        self.version, self.node, self.me, self.names = version, node, me, names


class Node:
    """A node of a tree with its number."""

    def __init__(self, tree, numbers):
        self.tree, self.sort, self.number = tree, tree[0], numbers.pop(0)
        self.parts = [self.made(part, numbers) for part in tree[1:]]

    def made(self, part, numbers):
        if isinstance(part, tuple) and part and isinstance(part[0], tuple):
            return [Node(inner, numbers) for inner in part]
        if isinstance(part, tuple) and part and isinstance(part[0], str) and self.sort != "block":
            return Node(part, numbers)
        return part


class Frame:
    def __init__(self, version, code, me, names, given):
        self.version, self.code, self.me, self.names, self.given = version, code, me, names, given
        self.at, self.waiting = None, []


class Raise(Exception):
    def __init__(self, worth, version, node):
        self.worth, self.version, self.node = worth, version, node


class Again(Exception):
    def __init__(self, k, body):
        self.k, self.body = k, body


def sort_of(worth):
    for kinds, sort in (((type(None),), "none"), ((bool,), "truth"), ((int,), "number"), ((str,), "text"),
                        ((List,), "list"), ((Block,), "block")):
        if isinstance(worth, kinds):
            return sort
    return "thing"


def set_words(statements):
    """The names that statements set or take, with the numbers of nodes, but for the parameters of blocks around."""
    found = []
    for node in statements:
        if node.sort == "set":
            found.append((node.number, node.parts[0]))
        if node.sort == "try":
            found.append((node.number, node.parts[1]))
        inner = []
        for part in node.parts:
            inner += part if isinstance(part, list) else [part]
        words = set_words([part for part in inner if isinstance(part, Node)])
        found += [(at, word) for at, word in words if node.sort != "block" or word not in node.parts[0]]
    return found


class Reference:
    def __init__(self, room=120, deep=20):
        self.book, self.most, self.deep = Book(), room, deep
        self.status, self.beats, self.said, self.last, self.fault, self.frames = "idle", 0, [], None, None, []
        self.things, self.codes, self.run_now, self.done = [], {}, None, 0
        self.many_looked = 0

    # What can be reached, and what it weighs.

    def roots(self):
        roots = [self.last] + [fault[0] for fault in [self.fault] if fault]
        for frame in self.frames:
            roots += [frame.me, frame.names, *frame.given, *frame.waiting]
        return roots

    def reached(self, roots):
        order, seen = [], set()
        queue = list(roots)
        while queue:
            cell = queue.pop(0)
            if isinstance(cell, (Thing, List, Block, Names)) and id(cell) not in seen:
                seen.add(id(cell))
                order.append(cell)
                queue += self.within(cell)
        return order

    def within(self, cell):
        if isinstance(cell, Thing):
            return [cell.worths[word] for word in self.fields(cell.kind)]
        if isinstance(cell, List):
            return cell.items
        return [cell.me, cell.names] if isinstance(cell, Block) else [*cell.worths, cell.outer]

    def fields(self, kind):
        return () if kind == "Thing" else self.book.fields(kind)

    def weight(self, roots):
        weights = {Thing: lambda cell: 1 + len(self.fields(cell.kind)), List: lambda cell: 1 + len(cell.items),
                   Block: lambda cell: 1, Names: lambda cell: 0}
        return sum(weights[type(cell)](cell) for cell in self.reached(roots))

    def view(self):
        order = self.reached(self.roots())
        numbers = {id(cell): at for at, cell in enumerate(order)}

        def told(worth):
            return ("cell", numbers[id(worth)]) if id(worth) in numbers else worth

        def all_told(worths):
            return tuple(told(worth) for worth in worths)

        cells = []
        for cell in order:
            if isinstance(cell, Thing):
                cells.append(("thing", cell.kind, all_told(self.within(cell))))
            elif isinstance(cell, List):
                cells.append(("list", all_told(cell.items)))
            elif isinstance(cell, Block):
                cells.append(("block", cell.version, cell.node.number, told(cell.me), told(cell.names)))
            else:
                cells.append(("names", all_told(cell.worths), told(cell.outer)))
        frames = tuple((frame.version, frame.code.number if frame.code else -1, frame.at, told(frame.me), told(frame.names),
                        all_told(frame.given), all_told(frame.waiting)) for frame in self.frames)
        fault = self.fault and (told(self.fault[0]), *self.fault[1:])
        return self.status, self.beats, tuple(self.said), told(self.last), fault, frames, tuple(cells)

    # Codes.

    def code(self, version):
        """The parameters, names and statements of a version."""
        if version not in self.codes:
            _, _, parameters, statements = self.book.version_of(version)[3]
            numbers = list(range(1000))
            nodes = [Node(statement, numbers) for statement in statements]
            words = list(parameters)
            for _, word in sorted(set_words(nodes)):
                if word not in words:
                    words.append(word)
            self.codes[version] = parameters, words, nodes
        return self.codes[version]

    # Deeds.

    def begin(self, kind, message, worths):
        """Begin what a stead took; it may be refused for room alone."""
        me = self.last
        if kind is not None:
            fault, self.fault = self.fault, None
            weight = self.weight([self.last]) + 1 + len(self.fields(kind))
            if weight > self.most:
                self.fault = fault
                return False
            me = self.new(kind)
        self.fault, self.said, self.status = None, [], "paused"
        version = self.book.finds(me.kind, message)
        self.run_now = self.frame(version, None, me, None, worths)
        self.go()
        return True

    def new(self, kind):
        self.things.append(Thing(kind, self.fields(kind)))
        return self.things[-1]

    def go(self, *again):
        """Go on to ahead of the next beat."""
        try:
            self.run_now.throw(*again) if again else next(self.run_now)
        except StopIteration as stop:
            self.status, self.last, self.frames = "ended", stop.value, []
        except Raise as told:
            self.status, self.fault, self.frames = "failed", (told.worth, told.version, told.node), []

    def run(self, beats, marks=()):
        begun = 0
        while self.status == "paused" and begun < beats and not (begun and self.here() in marks):
            begun += 1
            self.beats += 1
            self.go()
        return begun

    def here(self):
        _, _, page, _, places = self.book.version_of(self.frames[-1].version)
        return page, places[self.frames[-1].at][0]

    def again(self, k):
        """Begin frame k anew, where a stead does."""
        frame = self.frames[k]
        version = frame.version
        if frame.code is None:
            version = self.book.finds(frame.me.kind, self.book.version_of(version)[1])
        self.go(Again(k, (version, frame.code, frame.me, frame.names.outer, frame.given)))

    def named(self, k, word, worth):
        names = self.frames[k].names
        while word not in names.words:
            names = names.outer
        names.worths[names.words.index(word)] = worth

    def forget(self):
        self.status, self.fault, self.frames, self.run_now = "idle", None, [], None

    def edit(self, deed, worths):
        """Do an edit that a book takes; it may be refused for room alone."""
        ahead = {kind: self.book.fields(kind) for kind in self.book.kinds()}
        kept, worth = self.book, worths[2] if deed == "field" else None
        self.book = kept.copy()
        paper = getattr(self.book, deed)(*worths)
        held = [(thing, thing.worths) for thing in self.things]
        for thing in self.things:
            if thing.kind in ahead:
                thing.worths = {word: thing.worths.get(word, worth) for word in self.book.fields(thing.kind)}
        if self.weight(self.roots()) > self.most:
            self.book = kept
            for thing, inner in held:
                thing.worths = inner
            return None
        return paper

    # Runs.

    def frame(self, version, code, me, outer, given):
        k = len(self.frames)
        while True:
            parameters, words, nodes = self.code(version)
            if code is not None:
                words, nodes = code.parts
            frame = Frame(version, code, me, Names(words, given, outer), tuple(given))
            self.frames.append(frame)
            try:
                answer = yield from self.statements(frame, nodes)
                del self.frames[k:]
                return answer[0] if answer else None
            except Again as told:
                del self.frames[k:]
                if told.k != k:
                    raise
                version, code, me, outer, given = told.body

    def statements(self, frame, nodes):
        """What is answered, in a row, if there is a return."""
        for node in nodes:
            answer = yield from self.statement(frame, node)
            if answer:
                return answer
        return ()

    def statement(self, frame, node):
        frame.at = node.number
        yield
        sort, parts = node.sort, node.parts
        if sort == "try":
            try:
                return (yield from self.statements(frame, parts[0]))
            except Raise as told:
                del self.frames[self.frames.index(frame) + 1:]
                frame.waiting = []
                self.set(frame, parts[1], told.worth)
            return (yield from self.statements(frame, parts[2]))
        worth = yield from self.worth(frame, parts[-1] if sort in ("set", "setfield") else parts[0])
        if sort in ("if", "while"):
            if not isinstance(worth, bool):
                self.no("notruth", frame, node)
            if sort == "if":
                return (yield from self.statements(frame, parts[1 if worth else 2]))
            if worth:
                answer = yield from self.statements(frame, parts[1])
                if answer:
                    return answer
                return (yield from self.statement(frame, node))
        elif sort == "set":
            self.set(frame, parts[0], worth)
        elif sort == "setfield":
            if parts[0] not in self.fields(frame.me.kind):
                self.no("nofield", frame, node)
            frame.me.worths[parts[0]] = worth
        elif sort == "say":
            self.say(frame, node, worth)
        elif sort == "return":
            return (worth,)
        elif sort == "raise":
            raise Raise(worth, frame.version, node.number)
        return ()

    def no(self, word, frame, node):
        raise Raise(word, frame.version, node.number)

    def say(self, frame, node, worth):
        if len(self.said) == 200:
            self.no("long", frame, node)
        sort = sort_of(worth)
        plain = {"none": "none", "truth": str(worth).lower(), "number": str(worth), "text": worth}
        self.said.append(plain[sort] if sort in plain else "a " + self.what(worth))

    def what(self, worth):
        return worth.kind if sort_of(worth) == "thing" else sort_of(worth)

    def set(self, frame, word, worth):
        names = frame.names
        while word not in names.words:
            names = names.outer
        names.worths[names.words.index(word)] = worth

    def worths(self, frame, nodes):
        for node in nodes:
            worth = yield from self.worth(frame, node)
            frame.waiting.append(worth)
        worths = frame.waiting[len(frame.waiting) - len(nodes):]
        del frame.waiting[len(frame.waiting) - len(nodes):]
        return worths

    def fit(self, frame, node, more, taken=()):
        if self.weight(self.roots() + list(taken)) + more > self.most:
            self.no("full", frame, node)

    def worth(self, frame, node):
        sort, parts = node.sort, node.parts
        if sort in ("number", "text", "truth"):
            return parts[0]
        if sort == "self":
            return frame.me
        if sort == "name":
            names = frame.names
            while parts[0] not in names.words:
                names = names.outer
            return names.worths[names.words.index(parts[0])]
        if sort == "field":
            if parts[0] not in self.fields(frame.me.kind):
                self.no("nofield", frame, node)
            return frame.me.worths[parts[0]]
        if sort == "new":
            self.fit(frame, node, 1 + len(self.fields(parts[0])))
            return self.new(parts[0])
        if sort == "list":
            worths = yield from self.worths(frame, parts[0])
            if len(worths) > 30:
                self.no("long", frame, node)
            self.fit(frame, node, 1 + len(worths), worths)
            return List(worths)
        if sort == "block":
            self.fit(frame, node, 1)
            return Block(frame.version, node, frame.me, frame.names)
        if sort == "send":
            receiver, *worths = yield from self.worths(frame, [parts[0], *parts[2]])
            return (yield from self.send(frame, node, receiver, parts[1], worths))
        if sort == "up":
            worths = yield from self.worths(frame, parts[1])
            parent = self.book.parent(self.book.version_of(frame.version)[0])
            self.many_looked += 1
            version = None if parent == "Thing" else self.book.finds(parent, parts[0])
            if version is None:
                self.no("nomethod", frame, node)
            return (yield from self.call(frame, node, (version, None, frame.me, None), worths, self.code(version)[0]))
        return None

    def call(self, frame, node, body, worths, parameters):
        if len(worths) != len(parameters):
            self.no("count", frame, node)
        if len(self.frames) + 1 > self.deep:
            self.no("deep", frame, node)
        frame.at = node.number
        return (yield from self.frame(*body, worths))

    def send(self, frame, node, receiver, message, worths):
        sort = sort_of(receiver)
        if sort == "thing":
            self.many_looked += 1
            version = self.book.finds(receiver.kind, message)
            if version is not None:
                body = (version, None, receiver, None)
                return (yield from self.call(frame, node, body, worths, self.code(version)[0]))
        if sort == "block" and message == "call":
            body = (receiver.version, receiver.node, receiver.me, receiver.names)
            return (yield from self.call(frame, node, body, worths, receiver.node.parts[0]))
        many = {"=": "*", "what": ""}
        many.update({"number": {word: "number" for word in ("+", "-", "*", "<", "/", "rem")},
                     "text": {"+": "text", "<": "text", "size": ""}, "truth": {"and": "truth", "or": "truth", "not": ""},
                     "list": {"size": "", "at": "number", "put": "number *", "pop": "", "add": "*"}}.get(sort, {}))
        if message not in many:
            self.no("nomethod", frame, node)
        wanted = many[message].split()
        if len(wanted) != len(worths):
            self.no("count", frame, node)
        if any(want != "*" and want != sort_of(worth) for want, worth in zip(wanted, worths)):
            self.no("operand", frame, node)
        return self.answer(frame, node, receiver, message, worths)

    def answer(self, frame, node, one, message, worths):
        other = worths[0] if worths else None
        if message == "=":
            return sort_of(one) == sort_of(other) and (one is other or (not isinstance(one, (Thing, List, Block))
                                                                       and one == other))
        if message == "what":
            return self.what(one)
        if isinstance(one, List):
            return self.answer_of_list(frame, node, one, message, worths)
        if message in ("<", "and", "or", "not", "size"):
            return {"<": lambda: one < other, "and": lambda: one and other, "or": lambda: one or other,
                    "not": lambda: not one, "size": lambda: len(one)}[message]()
        if isinstance(one, str):
            if len(one + other) > 40:
                self.no("long", frame, node)
            return one + other
        if message in ("/", "rem") and other == 0:
            self.no("bynought", frame, node)
        worth = {"+": lambda: one + other, "-": lambda: one - other, "*": lambda: one * other, "/": lambda: one // other,
                 "rem": lambda: one - other * (one // other)}[message]()
        if abs(worth) >= BIG:
            self.no("big", frame, node)
        return worth

    def answer_of_list(self, frame, node, one, message, worths):
        if message == "size":
            return len(one.items)
        if message == "add":
            if len(one.items) == 30:
                self.no("long", frame, node)
            self.fit(frame, node, 1, [one, *worths])
            one.items.append(worths[0])
            return one
        if message == "pop":
            if not one.items:
                self.no("noplace", frame, node)
            return one.items.pop()
        if worths[0] not in range(len(one.items)):
            self.no("noplace", frame, node)
        if message == "put":
            one.items[worths[0]] = worths[1]
            return worths[1]
        return one.items[worths[0]]
