"""The plays of a host as a graph: what breaks a vow is an end, and each act and each call from outside costs one.

The nodes are tuples: ("play", number) between calls from outside; ("run", deed, number) where a run begins;
("at", deed, place, mark, number) where a run fires or calls; ("in", hook, phase, mark, number) in a firing; as ends
("end", way, mark, number) of runs and firings, and WANTED. The mark is None in runs that are not watched.
"""

from hookvows.phases import AHEAD, ENDED_FAILED, ENDED_WELL
from hookvows.programs import FAILED, WELL

WANTED = ("wanted",)


class Graph:
    """What the graphs of plays have in common."""

    def __init__(self, plan):
        self._plan = plan
        self._moves = {}

    def is_end(self, node):
        """Whether the node is an end."""
        return node[0] == "end" or node == WANTED

    def moves(self, node):
        """The list of the moves from the node."""
        if node not in self._moves:
            if node[0] == "in":
                found = [self.move_in(node, move) for move in self._plan.moves_in(node[1], node[2])]
                self._moves[node] = [move for move in found if move is not None]
            else:
                self._moves[node] = self.moves_out(node)
        return self._moves[node]

    def moves_out(self, node):
        """The list of the moves from a node that is in no firing: the graphs tell them each in its own way."""
        return []

    def move_in(self, node, move):
        """The move from a node in a firing, or None if it is of no use: likewise."""
        return None


class HostGraph(Graph):
    """The graph of the plays of the host of a plan, with the marks of a watch."""

    def __init__(self, plan, watch):
        super().__init__(plan)
        self._watch = watch

    def start_of_plays(self):
        """The node ahead of the first call."""
        return self._stand(self._plan.first_number())

    def start_of_runs(self, deed, state):
        """The node where a run of the deed from the state begins."""
        return ("run", deed, self._plan.number_of(state))

    def end_of_runs(self, way, state):
        """The end of runs that end so."""
        return ("end", way, None, self._plan.number_of(state))

    def behind(self, key, end):
        """The node behind this end of what is within, for the key of a move."""
        if end == WANTED:
            return WANTED
        _, way, mark, number = end
        if key[0] == "play":
            return self._stand(number)
        if key[0] == "in":
            return (*key, number)
        _, deed, place, marked = key
        word, _, _, well, failed = self._plan.point(place)
        # The mark of a run is not changed by the runs that it calls.
        return self._arrived(deed, well if way == WELL else failed, mark if word == "fire" else marked, number)

    def moves_out(self, node):
        """The list of the moves from a node that is in no firing."""
        if node[0] == "play":
            return [(1, ("call", deed), ("run", deed, node[1]), ("play",)) for deed in self._plan.open_deeds()]
        if node[0] == "run":
            _, deed, number = node
            mark = None
            if deed == self._watch.watched_deed():
                mark = self._watch.mark_at(self._plan.state_of(number))
            return [(0, None, None, self._arrived(deed, self._plan.start_of(deed), mark, number))]
        _, _, place, mark, number = node
        word, name = self._plan.point(place)[:2]
        within = ("in", name, AHEAD, mark, number) if word == "fire" else ("run", name, number)
        return [(0, None, within, node[:4])]

    def move_in(self, node, move):
        """The move from a node in a firing; None if it is of no use."""
        _, hook, phase, mark, number = node
        act, word, well, failed = move
        price = 0 if act is None else 1
        if word == "look":
            seen = hook == self._watch.watched_hook() and self._watch.breaks_look(self._plan.state_of(number))
            return (price, act, None, WANTED) if seen else None
        if word == "door":
            return price, act, ("run", act[1], number), node[:4]
        if word == "lend":
            return price, act, None, self._come(hook, phase, mark, self._plan.lent(number, act[1], act[2]))
        if word == "pass":
            return price, act, None, self._come(hook, well, mark, number)
        way, end, steps = self._plan.core_from(hook, number)
        return price, act, None, self._come(hook, well if way == WELL else failed, self._marked(mark, steps), end)

    def _stand(self, number):
        return WANTED if self._watch.breaks_stand(self._plan.state_of(number)) else ("play", number)

    def _arrived(self, deed, place, mark, number):
        """The node where a run comes to that goes on from the point."""
        word, name, place, number, steps = self._plan.walk(place, number)
        mark = self._marked(mark, steps)
        if word != "end":
            return ("at", deed, place, mark, number)
        if mark is not None and self._watch.breaks_end(mark, name, self._plan.state_of(number)):
            return WANTED
        return ("end", name, None, number)

    def _marked(self, mark, steps):
        """The mark behind the steps."""
        if mark is None:
            return mark
        for step in steps:
            mark = self._watch.mark_behind(mark, step)
        return mark

    def _come(self, hook, phase, mark, number):
        """The node in this phase of a firing."""
        if phase == ENDED_WELL or phase == ENDED_FAILED:
            return ("end", WELL if phase == ENDED_WELL else FAILED, mark, number)
        return ("in", hook, phase, mark, number)
