"""Trees: the nodes, the codes and the names of a method."""

# The code of the method itself; those of its blocks are their nodes' numbers.
METHOD_CODE = -1


def nodes_of(method):
    """All nodes of a method, in the order in which they begin in the text."""
    return tuple([node for node, _ in nodes_with_codes(method)])


def codes_of(method):
    """The codes of a method: its own one, then its blocks'."""
    blocks = [number for number, node in enumerate(nodes_of(method)) if node[0] == "block"]
    return (METHOD_CODE, *blocks)


def names_of(method):
    """The names of a method: its parameters, then what it sets or takes."""
    _, _, parameters, _ = method
    return names_among(parameters, nodes_with_codes(method))


def names_among(parameters, nodes):
    """The names of a method that has these parameters and these nodes, told with their codes."""
    names = list(parameters)
    for node, code in nodes:
        word = set_word(node)
        if word is not None and word not in names and not is_parameter(nodes, code, word):
            names.append(word)
    return tuple(names)


def parameters_of(method, node):
    """The parameters of a code."""
    return code_tree(method, node)[-2]


def body_of(method, node):
    """The statements of a code."""
    return code_tree(method, node)[-1]


def code_within(method, node):
    """The code in which a node stands directly."""
    _, code = nodes_with_codes(method)[node]
    return code


def scopes_of(method, code):
    """The rows of names that can be named in a code, from the innermost: of blocks, then of the method."""
    nodes = nodes_with_codes(method)
    scopes = []
    while code != METHOD_CODE:
        (_, parameters, _), around = nodes[code]
        scopes.append(parameters)
        code = around
    return (*scopes, names_of(method))


def found_name(scopes, word):
    """For what a name stands: how many steps outward, and its number there; None where it is nothing."""
    for steps, words in enumerate(scopes):
        if word in words:
            return steps, words.index(word)
    return None


def fields_named(method):
    """The fields that a method names or sets, each as often as it does."""
    return tuple([node[1] for node in nodes_of(method) if node[0] in ("field", "setfield")])


def code_tree(method, code):
    """The tree of a code: the method or a block, both of which end with their parameters and statements."""
    if code == METHOD_CODE:
        return method
    return nodes_of(method)[code]


def nodes_with_codes(method):
    """All nodes of a method in order, each as (node, the code in which it stands directly)."""
    nodes = []
    _, _, _, statements = method
    # The nodes to come stand here from the last to the next one.
    todo = [(statement, METHOD_CODE) for statement in statements[::-1]]
    while todo:
        node, code = todo.pop()
        code_inside = len(nodes) if node[0] == "block" else code
        nodes.append((node, code))
        todo.extend([(part, code_inside) for part in parts_of(node)[::-1]])
    return nodes


def many_nodes(node):
    """How many nodes there are: the node itself and those within it."""
    return 1 + sum([many_nodes(part) for part in parts_of(node)])


def parts_of(node):
    """The nodes right within a node, in the order in which they begin."""
    sort = node[0]
    if sort in ("do", "say", "return", "raise"):
        return node[1:]
    if sort in ("set", "setfield"):
        return node[2:]
    if sort == "if":
        _, test, first, second = node
        return (test, *first, *second)
    if sort == "while":
        _, test, statements = node
        return (test, *statements)
    if sort == "try":
        _, first, _, second = node
        return first + second
    if sort == "send":
        _, receiver, _, worths = node
        return (receiver, *worths)
    if sort in ("up", "list", "block"):
        return node[-1]
    return ()


def set_word(node):
    """The word of a name that a node sets or takes, or None."""
    if node[0] == "set":
        return node[1]
    if node[0] == "try":
        return node[2]
    return None


def is_parameter(nodes, code, word):
    """Whether a word within a code is a parameter of a block around it, by nodes with their codes."""
    while code != METHOD_CODE:
        (_, parameters, _), around = nodes[code]
        if word in parameters:
            return True
        code = around
    return False
