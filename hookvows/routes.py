"""The play of a way through the graph of plays."""

from hookvows.phases import RANK_OF
from hookvows.scripts import Play, Script


class Route:
    """The calls and the rows of acts along a way, written down step by step."""

    def __init__(self):
        self._calls = []
        self._rows = []
        # The places of the rows of the visits that are not over.
        self._visits = []

    def enter(self, start):
        """Begins what is within from the node start."""
        if start[0] == "in":
            self._visits.append(len(self._rows))
            self._rows.append([])

    def leave(self, start):
        """Ends what is within from the node start."""
        if start[0] == "in":
            self._visits.pop()

    def act(self, node, act):
        """Does the act of a move from the node, which may be None."""
        if act is not None and node[0] == "play":
            self._calls.append(act[1])
        elif act is not None:
            self._rows[self._visits[-1]].append(act)

    def pass_on(self, node, behind):
        """Goes on from one node to the one behind: a visit at the next rank may begin there."""
        if node[0] == "in" and behind[0] == "in" and RANK_OF[node[2]] != RANK_OF[behind[2]]:
            self.leave(node)
            self.enter(behind)

    def play(self):
        """The play that was written down."""
        # Visits behind the last row have no acts by themselves.
        many = len(self._rows)
        while many > 0 and len(self._rows[many - 1]) == 0:
            many = many - 1
        rows = self._rows[:many]
        return Play(self._calls, Script(*rows))


def route_of(search, start, end):
    """The play of the way that the search has found from the start, which is in no firing, to the end."""
    route = Route()
    # What is open within one another: its start, its steps, and how many of them have been done.
    frames = [(start, search.steps_to(start, end), 0)]
    while len(frames) > 0:
        begin, steps, done = frames.pop()
        if done == len(steps):
            route.leave(begin)
            continue
        frames.append((begin, steps, done + 1))
        node, act, within, last, behind = steps[done]
        route.act(node, act)
        if within is None:
            route.pass_on(node, behind)
        else:
            route.enter(within)
            frames.append((within, search.steps_to(within, last), 0))
    return route.play()
