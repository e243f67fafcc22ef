"""Finite graphs of nodes and steps, and what walks in them can gain."""

from pairahead.errors import TooGreat
from pairahead.searches import way_to


class Graph:
    """The nodes that can be reached from some beginnings, numbered in the order in which they are found.

    `follow(node)` returns the steps from a node, each a triple of a letter, the next node and what the step costs.
    TooGreat is raised if there are more than `most` nodes; None is no limit.
    """

    def __init__(self, begins, follow, most):
        self.nodes = []
        self.numbers = {}
        # For each node the number of the node that it was found from, and the letter of the step: None at a beginning.
        self.origins = []
        # For each node its steps, with the number of the next node in its place.
        self.steps = []
        for node in begins:
            self._find(node, None, None, most)
        while len(self.steps) < len(self.nodes):
            at = len(self.steps)
            found = follow(self.nodes[at])
            self.steps.append([(letter, self._find(after, at, letter, most), costs) for letter, after, costs in found])

    def _find(self, node, before, letter, most):
        """Return the number of the node, which gets one if it has none yet."""
        if node not in self.numbers:
            if len(self.nodes) == most:
                raise TooGreat("too many nodes can be reached")
            self.numbers[node] = len(self.nodes)
            self.nodes.append(node)
            self.origins.append((before, letter))
        return self.numbers[node]

    def lead_to(self, at):
        """Return the number of a beginning and the letters of a shortest way from there to the node."""
        begin, letters = way_to(self.origins, at)
        return begin, "".join(letters)

    def letters_of(self, loop):
        """Return the letters of a loop, which is a list of pairs of a node and of the number of a step from it."""
        return "".join([self.steps[node][step][0] for node, step in loop])


class Climb:
    """The greatest gains of all walks, or loops that gain something.

    `arcs` has a list for each node: its steps, each a pair of the number of the next node and of what it gains. If
    there are `loops`, each a list of pairs of a node and of the number of a step from it, then some walks gain more
    and more. Otherwise `gains` has the greatest gain of a walk from each node, the walk without steps included.
    """

    def __init__(self, arcs):
        self.gains = [0] * len(arcs)
        self.loops = []
        # For each node the number of the step that raised its gain last.
        self.chosen = [None] * len(arcs)
        while not self.loops and self._rises(arcs):
            self.loops = self._chosen_loops(arcs)

    def _rises(self, arcs):
        """Raise the gain of each node that a step allows to rise, and tell whether there was one."""
        gains = self.gains
        rises = False
        # A node is mostly found before those that follow it, so the gains of these are raised first.
        for node in range(len(arcs) - 1, -1, -1):
            for step, (after, gain) in enumerate(arcs[node]):
                if gain + gains[after] > gains[node]:
                    gains[node] = gain + gains[after]
                    self.chosen[node] = step
                    rises = True
        return rises

    def _chosen_loops(self, arcs):
        """Return the loops of chosen steps. Each of them gains something, since it has raised its own gains."""
        loops = []
        walks = [None] * len(arcs)
        for begin in range(len(arcs)):
            node = begin
            way = []
            while walks[node] is None and self.chosen[node] is not None:
                walks[node] = begin
                way.append((node, self.chosen[node]))
                node = arcs[node][self.chosen[node]][0]
            if way and walks[node] == begin:
                first = [at for at, _ in way].index(node)
                loops.append(way[first:])
        return loops
