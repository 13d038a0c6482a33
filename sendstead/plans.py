"""Plans: where the plain way goes on in a method, node by node of its tree."""

from sendstead.trees import METHOD_CODE, many_nodes, nodes_of


class Plan:
    """How the nodes of a method hang together, by their numbers. Where nothing comes any more it tells None.

    starts: of each code the statement that begins first.
    follow: of each statement the one that begins behind it.
    entries: of each if, while and try the statements with which the two ways on from it begin.
    es: of each node the es that are worked out for it, in order.
    owner: of each e the node for which it's worked out.
    next_e: of each e the one that is worked out behind it for the same node.
    takers: of each node the innermost try around it that takes what is raised there.
    """

    def __init__(self, method):
        _, _, _, statements = method
        self.nodes = nodes_of(method)
        self.starts = {}
        self.follow = {}
        self.entries = {}
        self.es = {}
        self.owner = {}
        self.next_e = {}
        self.takers = {}
        self.starts[METHOD_CODE] = self.lay(statements, 0, None, None)

    def lay(self, statements, first, behind, taker):
        """Lay statements, numbered from first on; the one that begins first, which is behind where there are none."""
        numbers = numbers_from(first, statements)
        for number, follow in zip(numbers, [*numbers[1:], behind]):
            self.follow[number] = follow
            self.takers[number] = taker
            self.lay_statement(number, taker)
        return [*numbers, behind][0]

    def lay_statement(self, number, taker):
        """Lay what stands within a statement."""
        node = self.nodes[number]
        behind = self.follow[number]
        if node[0] == "try":
            _, first, _, second = node
            self.es[number] = ()
            into = self.lay(first, number + 1, behind, number)
            self.entries[number] = (into, self.lay(second, number + 1 + many_of(first), behind, taker))
            return
        test = node[2] if node[0] in ("set", "setfield") else node[1]
        self.lay_es(number, (test,), taker)
        inner = number + 1 + many_nodes(test)
        if node[0] == "if":
            _, _, first, second = node
            into = self.lay(first, inner, behind, taker)
            self.entries[number] = (into, self.lay(second, inner + many_of(first), behind, taker))
        elif node[0] == "while":
            self.entries[number] = (self.lay(node[2], inner, number, taker), behind)

    def lay_es(self, number, nodes, taker):
        """Lay the es of a node."""
        numbers = numbers_from(number + 1, nodes)
        self.es[number] = numbers
        for at, node in enumerate(nodes):
            inner = numbers[at]
            self.owner[inner] = number
            self.next_e[inner] = [*numbers[1:], None][at]
            self.takers[inner] = taker
            self.lay_es(inner, es_within(node), taker)
            if node[0] == "block":
                self.starts[inner] = self.lay(node[2], inner + 1, None, None)


def numbers_from(first, nodes):
    """The numbers of nodes that stand one behind the other, the first one's being first."""
    numbers = []
    for node in nodes:
        numbers.append(first)
        first += many_nodes(node)
    return tuple(numbers)


def many_of(nodes):
    """How many nodes these are, with all within them."""
    return sum([many_nodes(node) for node in nodes])


def es_within(node):
    """The es that are worked out for an e."""
    if node[0] == "send":
        _, receiver, _, worths = node
        return (receiver, *worths)
    if node[0] in ("up", "list"):
        return node[-1]
    return ()
