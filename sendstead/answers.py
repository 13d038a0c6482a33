"""Answers: what worths answer to messages by themselves, without a method."""

from sendstead.bounds import MOST_WORTHS_OF_LIST
from sendstead.raising import Raised
from sendstead.signs import BIG, MOST_TEXT_SIGNS
from sendstead.worths import same, sort_of


def sort_of_worth(room, worth):
    """Of which kind a worth is: none, truth, number, text, thing, list or block."""
    if isinstance(worth, tuple):
        return room.cell_of(worth)[0]
    return sort_of(worth)


def what_is(room, worth):
    """The text that tells what a worth is: its kind."""
    sort = sort_of_worth(room, worth)
    if sort == "thing":
        return room.cell_of(worth)[1]
    return sort


def said_text(room, worth):
    """The text with which a worth is said."""
    sort = sort_of_worth(room, worth)
    if sort in ("thing", "list", "block"):
        return f"a {what_is(room, worth)}"
    if sort == "truth":
        return "true" if worth else "false"
    return "none" if sort == "none" else str(worth)


def number_or_raise(number):
    """The number, if it is one of a program."""
    if not -BIG < number < BIG:
        raise Raised("big")
    return number


def place_or_raise(worths, number):
    """The number, if a list of these worths has such a place."""
    if not 0 <= number < len(worths):
        raise Raised("noplace")
    return number


def divisor_or_raise(number):
    """The number, if one can divide by it."""
    if number == 0:
        raise Raised("bynought")
    return number


def worths_of_list(state, receiver):
    """The worths that stand in a list."""
    _, worths = state.room.cell_of(receiver)
    return worths


def answer_same(_, receiver, worths):
    """Whether both are of one kind and the same."""
    return same(receiver, worths[0])


def answer_what(state, receiver, _):
    """What the receiver is."""
    return what_is(state.room, receiver)


def answer_sum(_, receiver, worths):
    """The sum of numbers."""
    return number_or_raise(receiver + worths[0])


def answer_difference(_, receiver, worths):
    """The difference of numbers."""
    return number_or_raise(receiver - worths[0])


def answer_product(_, receiver, worths):
    """The product of numbers."""
    return number_or_raise(receiver * worths[0])


def answer_quotient(_, receiver, worths):
    """The quotient of numbers, rounded down."""
    return number_or_raise(receiver // divisor_or_raise(worths[0]))


def answer_rest(_, receiver, worths):
    """What is left behind a division rounded down."""
    return number_or_raise(receiver % divisor_or_raise(worths[0]))


def answer_below(_, receiver, worths):
    """Whether a number, or a text by its signs' numbers, is below another one."""
    return receiver < worths[0]


def answer_joined(_, receiver, worths):
    """Both texts, one behind the other."""
    text = receiver + worths[0]
    if len(text) > MOST_TEXT_SIGNS:
        raise Raised("long")
    return text


def answer_signs(_, receiver, worths):
    """How many signs a text has."""
    return len(receiver)


def answer_and(_, receiver, worths):
    """Whether both are true."""
    return receiver and worths[0]


def answer_or(_, receiver, worths):
    """Whether one is true."""
    return receiver or worths[0]


def answer_not(_, receiver, worths):
    """Whether it is false."""
    return not receiver


def answer_size(state, receiver, _):
    """How many worths stand in a list."""
    return len(worths_of_list(state, receiver))


def answer_at(state, receiver, worths):
    """The worth at a place of a list."""
    held = worths_of_list(state, receiver)
    return held[place_or_raise(held, worths[0])]


def answer_put(state, receiver, worths):
    """Put a worth at a place of a list; the worth."""
    held = list(worths_of_list(state, receiver))
    held[place_or_raise(held, worths[0])] = worths[1]
    state.room.change(receiver, ("list", tuple(held)))
    return worths[1]


def answer_pop(state, receiver, _):
    """Take the last worth out of a list; the worth."""
    held = worths_of_list(state, receiver)
    place_or_raise(held, len(held) - 1)
    state.room.change(receiver, ("list", held[:-1]))
    return held[-1]


def answer_add(state, receiver, worths):
    """Put a worth behind the others of a list; the list."""
    held = worths_of_list(state, receiver)
    if len(held) >= MOST_WORTHS_OF_LIST:
        raise Raised("long")
    state.make_room(1, (receiver, *worths))
    state.room.change(receiver, ("list", (*held, *worths)))
    return receiver


# For each kind of worth and message: the kinds of worths that go with it, and how it's answered.
TAKEN = {
    ("worth", "="): ("worth",), ("worth", "what"): (),
    ("number", "+"): ("number",), ("number", "-"): ("number",), ("number", "*"): ("number",),
    ("number", "<"): ("number",), ("number", "/"): ("number",), ("number", "rem"): ("number",),
    ("text", "+"): ("text",), ("text", "<"): ("text",), ("text", "size"): (),
    ("truth", "and"): ("truth",), ("truth", "or"): ("truth",), ("truth", "not"): (),
    ("list", "size"): (), ("list", "at"): ("number",), ("list", "put"): ("number", "worth"), ("list", "pop"): (),
    ("list", "add"): ("worth",),
}
ANSWERS = {
    ("worth", "="): answer_same, ("worth", "what"): answer_what,
    ("number", "+"): answer_sum, ("number", "-"): answer_difference, ("number", "*"): answer_product,
    ("number", "<"): answer_below, ("number", "/"): answer_quotient, ("number", "rem"): answer_rest,
    ("text", "+"): answer_joined, ("text", "<"): answer_below, ("text", "size"): answer_signs,
    ("truth", "and"): answer_and, ("truth", "or"): answer_or, ("truth", "not"): answer_not,
    ("list", "size"): answer_size, ("list", "at"): answer_at, ("list", "put"): answer_put, ("list", "pop"): answer_pop,
    ("list", "add"): answer_add,
}


def answer_of(state, receiver, message, worths):
    """What a worth answers to a message by itself; else the text that tells why not is raised."""
    room = state.room
    key = (sort_of_worth(room, receiver), message)
    if message in ("=", "what"):
        key = ("worth", message)
    if key not in TAKEN:
        raise Raised("nomethod")
    taken = TAKEN[key]
    if len(worths) != len(taken):
        raise Raised("count")
    if not all([sort in ("worth", sort_of_worth(room, worth)) for sort, worth in zip(taken, worths)]):
        raise Raised("operand")
    action = ANSWERS[key]
    return action(state, receiver, worths)
