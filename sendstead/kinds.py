"""Kinds by themselves: their parents and own fields, and what follows from these."""

from sendstead.bounds import MOST_FIELDS, MOST_OWN


class Kinds:
    """Kinds in their order, each with a parent and own fields, whether these fit or not.

    It never changes: with_kind makes another one. A parent that is none of them ends a line.
    """

    def __init__(self, parents, own):
        self._parents = parents
        self._own = own

    def with_kind(self, kind, parent, own):
        """These kinds with one more behind them, or with one put anew in its place."""
        return Kinds({**self._parents, kind: parent}, {**self._own, kind: own})

    def kinds(self):
        """The names of all kinds, in their order."""
        return tuple(self._parents)

    def are_as(self, other):
        """Whether others are the same, in the same order."""
        return list(self._parents.items()) == list(other._parents.items()) and self._own == other._own

    def has(self, kind):
        """Whether it is one of these kinds."""
        return kind in self._parents

    def parent(self, kind):
        """The parent of a kind."""
        return self._parents[kind]

    def own(self, kind):
        """The own fields of a kind."""
        return self._own[kind]

    def line(self, kind):
        """The kind and those above it; in a ring each one once."""
        line = []
        while kind in self._parents and kind not in line:
            line.append(kind)
            kind = self._parents[kind]
        return tuple(line)

    def is_endless(self, kind):
        """Whether the line of a kind leads into a ring."""
        return self._parents[self.line(kind)[-1]] in self._parents

    def fields(self, kind):
        """All fields of a kind, from those furthest up to its own; none of what isn't one of these kinds."""
        return tuple([word for above in self.line(kind)[::-1] for word in self._own[above]])

    def clash(self):
        """Whether a field is twice in the line of a kind."""
        return any([has_twice(self.fields(kind)) for kind in self._parents])

    def are_too_many(self):
        """Whether a kind has more fields than it may, own ones or in all."""
        own = [len(self._own[kind]) > MOST_OWN for kind in self._parents]
        return any(own) or any([len(self.fields(kind)) > MOST_FIELDS for kind in self._parents])


def has_twice(words):
    """Whether one of the words is there twice."""
    return len(set(words)) < len(words)
