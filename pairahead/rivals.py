"""Rivals: lists of cases that answer calls and are rearranged at will."""

from pairahead.errors import CaseThere, InvalidMove, NoCase


class Rival:
    """A rival, which begins with the names in their order from the front."""

    def __init__(self, names):
        self.names = list(names)
        self.cost = 0

    @property
    def order(self):
        """The names from the front."""
        return list(self.names)

    def __contains__(self, name):
        return name in self.names

    def __len__(self):
        return len(self.names)

    def call(self, name, to=None):
        """Call a case and move it to the place `to`; without `to` it stays."""
        place = self._place(name)
        if to is not None:
            if not 0 <= to <= place:
                raise InvalidMove(to)
            self.names.pop(place)
            self.names.insert(to, name)
        self.cost += place

    def exchange(self, at):
        """Exchange the cases at the places `at` and `at + 1`."""
        if not 0 <= at < len(self.names) - 1:
            raise InvalidMove(at)
        self.names[at], self.names[at + 1] = self.names[at + 1], self.names[at]
        self.cost += 1

    def put(self, name, at):
        """Put a newcomer at the place `at`."""
        if name in self.names:
            raise CaseThere(name)
        if not 0 <= at <= len(self.names):
            raise InvalidMove(at)
        self.names.insert(at, name)

    def drop(self, name):
        """Drop a case."""
        self.names.pop(self._place(name))

    def _place(self, name):
        if name not in self.names:
            raise NoCase(name)
        return self.names.index(name)
