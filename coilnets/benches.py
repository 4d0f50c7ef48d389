"""A bench on which parts are put and from which they are taken."""

from coilnets.checks import is_integer
from coilnets.errors import BadName, BadNumber, BadPart, Full, NoPart, NothingToUndo
from coilnets.solving import impedance
from coilnets.wiring import MOST_NODES, MOST_PARTS, is_part

LONGEST_NAME = 8


class Bench:
    """A network that grows and shrinks, whose parts have names."""

    def __init__(self, many):
        if not is_integer(many) or not 1 <= many <= MOST_NODES:
            raise BadNumber()
        self._many = many
        self._names = ()
        self._parts = ()
        self._past = []

    def put(self, name, kind, a, b, value):
        """Puts a part on the bench."""
        if not _is_name(name) or name in self._names:
            raise BadName()
        part = (kind, a, b, value)
        if not is_part(part, self._many):
            raise BadPart()
        if len(self._parts) == MOST_PARTS:
            raise Full()
        self._change(self._names + (name,), self._parts + (part,))

    def take(self, name):
        """Takes a part off the bench."""
        self._check_there(name)
        self._change(tuple([held for held in self._names if held != name]), self._parts_without(name))

    def undo(self):
        """Takes back the last put or take that was not taken back yet."""
        if not self._past:
            raise NothingToUndo()
        self._names, self._parts = self._past.pop()

    @property
    def names(self):
        """The names in the order in which the parts were put."""
        return self._names

    @property
    def network(self):
        """The network of the parts."""
        return self._many, self._parts

    def seen(self, a, b):
        """The impedance between two nodes."""
        return impedance((self._many, self._parts), a, b)

    def seen_without(self, name, a, b):
        """The impedance between two nodes as if a part were not there."""
        self._check_there(name)
        return impedance((self._many, self._parts_without(name)), a, b)

    def __len__(self):
        return len(self._parts)

    def __contains__(self, value):
        return value in self._names

    def __eq__(self, other):
        return (isinstance(other, Bench) and self._many == other._many
                and self._names == other._names and self._parts == other._parts)

    def _check_there(self, name):
        if not _is_name(name):
            raise BadName()
        if name not in self._names:
            raise NoPart()

    def _parts_without(self, name):
        return tuple([part for held, part in zip(self._names, self._parts) if held != name])

    def _change(self, names, parts):
        self._past.append((self._names, self._parts))
        self._names, self._parts = names, parts


def _is_name(value):
    if not isinstance(value, str) or not 1 <= len(value) <= LONGEST_NAME:
        return False
    return all(["a" <= letter <= "z" for letter in value])
