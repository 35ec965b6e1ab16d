"""The plays of two hosts at once as a graph: where they show something else is the end that is wanted.

The nodes are as those of hookvows.graphs, with the numbers of the states of both hosts in the place of a mark and one
number: ("play", one, other), ("run", deed, one, other), ("in", hook, phase, one, other), ("end", way, one, other,
steps, other_steps), and WANTED. A call by Call shows nothing, so that runs by Call are a part of the run that called:
in ("at", places, others, one, other) both hosts fire the same hook, each at the last of its places; ahead of it stand
those at which it called.

A core that comes without an act and fails shows only its steps, and those behind the firing go on with them: whether
both hosts show the same is known only behind these. So the end of such a firing has the steps of both cores, if they
are seen and differ; all other ends have none.
"""

from hookvows.graphs import WANTED, Graph
from hookvows.phases import AHEAD, ENDED_FAILED, ENDED_WELL
from hookvows.programs import FAILED, WELL


class PairGraph(Graph):
    """The graph of the plays of the hosts of two plans, which can be compared."""

    def __init__(self, plan, other_plan, sees_steps):
        super().__init__(plan)
        self._other_plan = other_plan
        self._side = Side(plan)
        self._other_side = Side(other_plan)
        self._sees_steps = sees_steps

    def start_of_plays(self):
        """The node ahead of the first call."""
        return ("play", self._plan.first_number(), self._other_plan.first_number())

    def behind(self, key, end):
        """The node behind this end of what is within, for the key of a move."""
        if end == WANTED:
            return WANTED
        _, way, one, other, steps, other_steps = end
        if key[0] == "play":
            return ("play", one, other) if one == other else WANTED
        if key[0] == "in":
            return (*key, one, other)
        _, places, others = key
        walked = self._side.gone_on(places, way, one, steps)
        return self._met(walked, self._other_side.gone_on(others, way, other, other_steps))

    def moves_out(self, node):
        """The list of the moves from a node that is in no firing."""
        if node[0] == "play":
            return [(1, ("call", deed), ("run", deed, *node[1:]), ("play",)) for deed in self._plan.open_deeds()]
        if node[0] == "run":
            _, deed, one, other = node
            return [(0, None, None, self._met(self._side.begun(deed, one), self._other_side.begun(deed, other)))]
        _, places, _, one, other = node
        return [(0, None, ("in", self._plan.point(places[-1])[1], AHEAD, one, other), node[:3])]

    def move_in(self, node, move):
        """The move from a node in a firing; None if it is of no use."""
        _, hook, phase, one, other = node
        act, word, well, failed = move
        if word == "look":
            return (1, act, None, WANTED) if one != other else None
        # If the states differ, no act can be better than a look.
        if act is not None and one != other:
            return None
        price = 0 if act is None else 1
        if word == "door":
            return price, act, ("run", act[1], one, other), node[:3]
        if word == "lend":
            lent = self._plan.lent(one, act[1], act[2])
            return price, act, None, ("in", hook, phase, lent, lent)
        if word == "pass":
            return price, act, None, _come(hook, well, one, other)
        return price, act, None, self._behind_core(node, well, failed)

    def _behind_core(self, node, well, failed):
        """The node behind the core, which comes at the node and leads to the phase well or to the phase failed."""
        _, hook, _, one, other = node
        way, one, steps = self._plan.core_from(hook, one)
        other_way, other, other_steps = self._other_plan.core_from(hook, other)
        # Without an act the way of the core is not shown. But behind a core that ended well the next that is shown, but
        # for steps, is the visit behind, which never is the next one behind a firing that failed.
        if way != other_way:
            return WANTED
        phase = well if way == WELL else failed
        if not self._sees_steps or steps == other_steps:
            return _come(hook, phase, one, other)
        # The end of an inner, or the visit behind, shows where the steps of the core end; a firing that fails does not.
        return ("end", FAILED, one, other, steps, other_steps) if phase == ENDED_FAILED else WANTED

    def _met(self, walked, other_walked):
        """The node where both hosts come to."""
        places, word, name, one, steps = walked
        others, other_word, other_name, other, other_steps = other_walked
        if (word, name) != (other_word, other_name) or (self._sees_steps and steps != other_steps):
            return WANTED
        return ("end", name, one, other, (), ()) if word == "end" else ("at", places, others, one, other)


def _come(hook, phase, one, other):
    """The node in this phase of a firing, if both hosts have shown the same up to it."""
    if phase == ENDED_WELL or phase == ENDED_FAILED:
        return ("end", WELL if phase == ENDED_WELL else FAILED, one, other, (), ())
    return ("in", hook, phase, one, other)


class Side:
    """The runs of one of the hosts, in which those by Call are parts of the run that called.

    Where such a run stands is told by places: those at which it called, then the one where it is now.
    """

    def __init__(self, plan):
        self._plan = plan
        self._known = {}

    def begun(self, deed, number):
        """Where a run of the deed from the state comes to that goes on as far as nothing is fired.

        Tells the places, the word and the name of the last one, the number of the state, and the steps on the way.
        """
        return self._walked((self._plan.start_of(deed),), number, ())

    def gone_on(self, places, way, number, steps):
        """Where a run comes to, told likewise, if what it fired at the last of the places ended so.

        The steps on the way begin with those that this end has.
        """
        key = (places, way, number, steps)
        if key not in self._known:
            self._known[key] = self._walked(self._behind_last(places, way), number, steps)
        return self._known[key]

    def _walked(self, places, number, begin):
        steps = list(begin)
        while True:
            word, name, place, number, more = self._plan.walk(places[-1], number)
            steps.extend(more)
            places = (*places[:-1], place)
            if word == "call":
                places = (*places, self._plan.start_of(name))
            elif word == "end" and len(places) > 1:
                places = self._behind_last(places[:-1], name)
            else:
                return places, word, name, number, tuple(steps)

    def _behind_last(self, places, way):
        """The places, with the one behind the last of them, which has ended in this way."""
        well, failed = self._plan.point(places[-1])[3:]
        return (*places[:-1], well if way == WELL else failed)
