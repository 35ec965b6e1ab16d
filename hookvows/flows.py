"""Which states can come at each point of the runs of a host, with any parts, if what runs within ends as a table says.

A spot is the number of a state, and above that a mark of the run: mark * (how many states there are) + number. Sets of
spots are masks. A table is a dict from the deeds to lists: for the number of each state the two masks of the states in
which the deed ends from there, those of the runs that end well, then those of the runs that fail.
"""

from hookvows.hosts import RANKS
from hookvows.masks import image, mask_of, numbers_in, spread
from hookvows.phases import AHEAD, ENDED_FAILED, ENDED_WELL, MANY_PHASES, RANK_OF
from hookvows.programs import END_FAILED, END_WELL, WELL
from hookvows.watches import Watch


class Flow:
    """The masks of a plan: of runs with the marks of a watch, in which all ends as a table says."""

    def __init__(self, plan, watch, table):
        self._plan = plan
        self._watch = watch
        self._table = {deed: list(pairs) for deed, pairs in table.items()}
        self._points = plan.points()
        self._many = plan.many()
        self._spots = self._many * watch.many_marks()
        # Without marks the same room above the numbers is taken for the states from which runs began.
        layers = self._many if self._spots == self._many else watch.many_marks()
        self._everywhere = mask_of([layer * self._many for layer in range(layers)])
        self._all = (1 << self._spots) - 1
        self._held = {}
        self._without_doors = {}
        self._doors = {}
        self._following = {}
        self._fired = {}

    def forget(self):
        """Forgets what was reckoned with what the table said up to now."""
        self._doors = {}
        self._following = {}
        self._fired = {}

    def set_ends(self, deed, pairs):
        """Changes what the table says of the deed; firings take note of this when all else is forgotten."""
        self._table[deed] = list(pairs)

    def ends_from_all(self, deed):
        """What the table would have to say of the deed: this is reckoned without marks."""
        begins = mask_of([number * self._many + number for number in range(self._many)])
        well, failed = self.ends_from(deed, begins)
        return [
            (well >> number * self._many & self._all, failed >> number * self._many & self._all)
            for number in range(self._many)
        ]

    def ends_from(self, deed, spots):
        """The masks of the spots in which runs of the deed that begin in these spots end well, and fail."""
        masks = self._pass_from({deed: spots})
        return masks[END_WELL], masks[END_FAILED]

    def calls_and_sights(self, begins):
        """What runs of all deeds come to that begin in these masks of states, without marks.

        The dict from all deeds to the masks of the states in which they are called, by Call or through a door; and the
        dict from all tuples of a hook and a rank to the masks of the states that can be seen there.
        """
        called = {deed: 0 for deed in self._plan.deeds()}
        fired = {hook: 0 for hook in self._plan.hooks()}
        for point, mask in zip(self._points, self._pass_from(begins)):
            if point[0] == "call":
                called[point[1]] = called[point[1]] | mask
            if point[0] == "fire":
                fired[point[1]] = fired[point[1]] | mask
        sights = {(hook, rank): 0 for hook in fired for rank in RANKS}
        for hook, mask in fired.items():
            found = spread(self._following_of(hook), mask)
            for phase, rank in enumerate(RANK_OF):
                seen = self._in_phase(found, phase)
                sights[(hook, rank)] = sights[(hook, rank)] | seen
                for act, word, _, _ in self._plan.moves_in(hook, phase):
                    if word == "door":
                        called[act[1]] = called[act[1]] | seen
        return called, sights

    def _pass_from(self, begins):
        """For each point the mask of what can come there, if runs of these deeds begin in these masks."""
        masks = [0 for _ in self._points]
        for deed, mask in begins.items():
            place = self._plan.start_of(deed)
            masks[place] = masks[place] | mask
        # All that a point leads to stands ahead of it.
        for place in range(len(masks) - 1, END_FAILED, -1):
            if masks[place] > 0:
                word, name, number, well, failed = self._points[place]
                ended_well, ended_failed = self._ends_of_point(word, name, number, masks[place])
                masks[well] = masks[well] | ended_well
                masks[failed] = masks[failed] | ended_failed
        return masks

    def _ends_of_point(self, word, name, number, mask):
        """The masks of what goes on at each of the two points behind a point."""
        if word == "fire":
            return image(self._fired_from_all(name), mask, self._spots)
        if word == "call":
            return image(self._table[name], mask, self._many)
        if word == "do":
            return self._turned(name, mask), 0
        if word == "put":
            return self._put(name, number, mask), 0
        held = mask & self._holding(name)[number]
        return held, mask - held

    def _turned(self, step, mask):
        """What is in the mask, with the marks that are there behind the step."""
        behind = [self._watch.mark_behind(mark, step) for mark in range(self._watch.many_marks())]
        if all([mark == turned for mark, turned in enumerate(behind)]):
            return mask
        found = 0
        for mark, turned in enumerate(behind):
            part = mask >> mark * self._many & (1 << self._many) - 1
            found = found | part << turned * self._many
        return found

    def _put(self, box, value, mask):
        found = 0
        for there, held in enumerate(self._holding(box)):
            part = mask & held
            shift = self._plan.shift(box, value - there)
            found = found | (part << shift if shift >= 0 else part >> -shift)
        return found

    def _holding(self, box):
        """For each value the mask of where the box has it."""
        if box not in self._held:
            values = self._plan.values_of(box)
            found = [0 for _ in range(max(values, key=int) + 1)]
            for number, value in enumerate(values):
                found[value] = found[value] | self._everywhere << number
            self._held[box] = found
        return self._held[box]

    def _fired_from_all(self, hook):
        """For each spot the masks of the spots in which a firing of the hook ends well, and fails."""
        if hook not in self._fired:
            following = self._following_of(hook)
            pairs = []
            for spot in range(self._spots):
                found = spread(following, 1 << AHEAD * self._spots + spot)
                pairs.append((self._in_phase(found, ENDED_WELL), self._in_phase(found, ENDED_FAILED)))
            self._fired[hook] = pairs
        return self._fired[hook]

    def _in_phase(self, mask, phase):
        return mask >> phase * self._spots & self._all

    def _following_of(self, hook):
        """For each spot in each phase of a firing the mask of those that come next: phase * (how many spots) + spot."""
        if hook not in self._following:
            if hook not in self._without_doors:
                self._without_doors[hook] = self._moves_without_doors(hook)
            found = list(self._without_doors[hook])
            for phase in range(len(RANK_OF)):
                deeds = [act[1] for act, word, _, _ in self._plan.moves_in(hook, phase) if word == "door"]
                for spot in range(self._spots):
                    place = phase * self._spots + spot
                    for deed in deeds:
                        found[place] = found[place] | self._ends_of_door(deed)[spot] << phase * self._spots
            self._following[hook] = found
        return self._following[hook]

    def _ends_of_door(self, deed):
        """For each spot the mask of the spots in which a run through a door ends, in whatever way."""
        if deed not in self._doors:
            either = [well | failed for well, failed in self._table[deed]]
            many_marks = self._watch.many_marks()
            self._doors[deed] = [ends << mark * self._many for mark in range(many_marks) for ends in either]
        return self._doors[deed]

    def _moves_without_doors(self, hook):
        found = [0 for _ in range(MANY_PHASES * self._spots)]
        for phase in range(len(RANK_OF)):
            for move in self._plan.moves_in(hook, phase):
                for spot in range(self._spots):
                    place = phase * self._spots + spot
                    found[place] = found[place] | self._next_mask(hook, move, spot)
        return found

    def _next_mask(self, hook, move, spot):
        """The mask of where the move leads from the spot; a look leads nowhere else, and doors are left out."""
        act, word, well, failed = move
        number = spot % self._many
        mark = spot // self._many
        if word == "pass":
            return 1 << well * self._spots + spot
        if word == "lend":
            return 1 << well * self._spots + mark * self._many + self._plan.lent(number, act[1], act[2])
        if word != "core":
            return 0
        way, number, steps = self._plan.core_from(hook, number)
        for step in steps:
            mark = self._watch.mark_behind(mark, step)
        return 1 << (well if way == WELL else failed) * self._spots + mark * self._many + number


def least_table(plan):
    """The least closed table: nothing is said to end in any way, until all that has to be said is said."""
    table = {deed: [(0, 0) for _ in range(plan.many())] for deed in plan.deeds()}
    flow = Flow(plan, Watch(), table)
    grows = True
    while grows:
        grows = False
        flow.forget()
        for deed in plan.deeds():
            pairs = flow.ends_from_all(deed)
            if pairs != table[deed]:
                grows = True
                table[deed] = pairs
                flow.set_ends(deed, pairs)
    return table


def spots_of(plan, watch, mask):
    """The mask of the spots in which runs of the watched deed begin, if they begin in the states of the mask."""
    return mask_of([watch.mark_at(plan.state_of(number)) * plan.many() + number for number in numbers_in(mask)])
