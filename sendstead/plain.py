"""The plain way: it goes by the tree of the text."""

from sendstead.plans import Plan
from sendstead.raising import Raised
from sendstead.trees import found_name
from sendstead.ways import Way, fields_of

# What is to be done next at a node: work out an e, go on behind an e, do what a node is for.
WORK = "work"
BEHIND = "behind"
DO = "do"


class PlainWay(Way):
    """Runs node by node. step is what is to be done next in the innermost frame: (what, the node's number).

    It is None where a statement is to begin, or all is over.
    """

    def __init__(self, state):
        Way.__init__(self, state)
        self.plans = {}
        self.step = None

    def plan(self, version):
        """The plan of a version."""
        if version not in self.plans:
            _, _, _, tree, _ = self.version_told(version)
            self.plans[version] = Plan(tree)
        return self.plans[version]

    def do_statement(self):
        """Do the statement that begins now, till the next one is to begin or all is over."""
        frame = self.frame()
        plan = self.plan(frame.version)
        if plan.nodes[frame.at][0] == "try":
            into, _ = plan.entries[frame.at]
            self.go_to(into)
        else:
            self.step = (WORK, frame.at + 1)
        self.settle()

    def settle(self):
        """Go on till a statement is to begin or all is over."""
        while self.step is not None:
            what, number = self.step
            self.step = None
            plan = self.plan(self.frame().version)
            if what == WORK:
                es = plan.es[number]
                self.step = (WORK, es[0]) if es else (DO, number)
            elif what == BEHIND:
                more = plan.next_e[number]
                self.step = (DO, plan.owner[number]) if more is None else (WORK, more)
            else:
                self.try_to_do(plan, number)

    def try_to_do(self, plan, number):
        """Do what a node is for, or go where what it raises leads."""
        try:
            self.do_node(number, plan.nodes[number], self.take_waiting(len(plan.es[number])))
        except Raised as raised:
            self.unwind(raised.worth, number)

    def frame_begun(self, frame):
        """A frame was begun."""
        self.go_to(self.plan(frame.version).starts[frame.node])

    def go_behind(self, frame):
        """What the innermost frame awaited waits in it now."""
        self.step = (BEHIND, frame.at)

    def go_to(self, number):
        """Go to the statement that begins next in the innermost frame, or to its end where there is none."""
        if number is None:
            self.answer(None)
        else:
            frame = self.frame()
            frame.at = number

    def take_raised(self, frame, at, worth):
        """Let a try take what was raised, if one does; whether it did."""
        plan = self.plan(frame.version)
        number = plan.takers[at]
        if number is None:
            return False
        frame.waiting.clear()
        self.set_word(plan.nodes[number][2], worth)
        _, into = plan.entries[number]
        self.go_to(into)
        return True

    def find_word(self, word):
        """For what a name stands in the innermost frame."""
        frame = self.frame()
        return found_name(self.scopes(frame.version, frame.node), word)

    def word_worth(self, word):
        """The worth of the name for which a word stands."""
        steps, number = self.find_word(word)
        return self.name_worth(steps, number)

    def set_word(self, word, worth):
        """Let the name for which a word stands have a worth."""
        steps, number = self.find_word(word)
        self.set_name(steps, number, worth)

    def do_node(self, number, node, taken):
        """Do what a node is for, with the worths that were worked out for it."""
        sort = node[0]
        if sort == "send":
            self.send(number, taken[0], node[2], taken[1:])
        elif sort == "up":
            self.send_up(number, node[1], taken)
        elif sort in ("if", "while"):
            self.choose(number, taken[0])
        elif sort == "return":
            self.answer(taken[0])
        elif sort == "raise":
            raise Raised(taken[0])
        elif number in self.plan(self.frame().version).follow:
            self.do_plain(node, taken[0])
            self.go_to(self.plan(self.frame().version).follow[number])
        else:
            self.put_worth(number, self.worth_of(number, node, taken))

    def choose(self, number, worth):
        """Go the way on from an if or while for which a truth stands."""
        if not isinstance(worth, bool):
            raise Raised("notruth")
        into, past = self.plan(self.frame().version).entries[number]
        self.go_to(into if worth else past)

    def do_plain(self, node, worth):
        """Do what a statement is for that has a worth and goes on behind itself."""
        sort = node[0]
        if sort == "set":
            self.set_word(node[1], worth)
        elif sort == "setfield":
            self.set_field(node[1], worth)
        elif sort == "say":
            self.say(worth)

    def worth_of(self, number, node, taken):
        """The worth of an e that begins no frame."""
        sort = node[0]
        if sort in ("number", "text", "truth"):
            return node[1]
        if sort == "self":
            return self.frame().me
        if sort == "name":
            return self.word_worth(node[1])
        if sort == "field":
            return self.field_worth(node[1])
        if sort == "new":
            return self.new_thing(node[1])
        if sort == "list":
            return self.new_list(taken)
        if sort == "block":
            return self.new_block(number)
        return None

    def look(self, kind, message):
        """The version that a kind finds for a message, or None."""
        self.many_looked += 1
        return self.state.book.finds(kind, message)

    def field_number(self, kind, word):
        """The number of a field among those of a kind."""
        fields = fields_of(self.state.book, kind)
        if word not in fields:
            raise Raised("nofield")
        return fields.index(word)

    def forget_places(self):
        """There are no places to remember anything."""

    def stops(self):
        """There are no rows at which frames are."""
        return ()

    def places(self):
        """There are no places."""
        return ()
