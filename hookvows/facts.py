"""What a record says, in numbers and masks; the least record; and what a record shows of a vow."""

from hookvows.basics import is_list
from hookvows.checks import is_way
from hookvows.flows import Flow, least_table, spots_of
from hookvows.masks import mask_of, numbers_in
from hookvows.programs import FAILED, WELL
from hookvows.watches import Watch


class Facts:
    """A record of the host of a plan: a table, and the masks of where runs begin and of the states between."""

    def __init__(self, plan, table, entries, between):
        self._plan = plan
        self._table = table
        self._entries = entries
        self._between = between
        self._flow = Flow(plan, Watch(), table)

    def ends_of(self, deed, number):
        """The masks of the states in which the table lets the deed end well, and fail, from a state."""
        return self._table[deed][number]

    def entries_of(self, deed):
        """The mask of the states in which runs of the deed begin."""
        return self._entries[deed]

    def between(self):
        """The mask of the states between."""
        return self._between

    def sights(self):
        """The dict from all tuples (hook, rank) to the masks of the states that can be seen there."""
        return self._flow.calls_and_sights(self._entries)[1]

    def are_closed(self):
        """Whether the table is closed, and the states between and the entries have all that they must have."""
        for deed in self._plan.deeds():
            for one, other in zip(self._flow.ends_from_all(deed), self._table[deed]):
                if (one[0] & ~other[0]) | (one[1] & ~other[1]) > 0:
                    return False
        wanted = ends_between(self._plan, self._table, self._between) | 1 << self._plan.first_number()
        if wanted & ~self._between > 0:
            return False
        called = self._flow.calls_and_sights(self._entries)[0]
        for deed in self._plan.open_deeds():
            called[deed] = called[deed] | self._between
        return not any([called[deed] & ~self._entries[deed] > 0 for deed in called])

    def show(self, watch):
        """Whether they show that nothing breaks what the watch watches for."""
        if any([watch.breaks_stand(self._plan.state_of(number)) for number in numbers_in(self._between)]):
            return False
        if watch.watched_hook() in self._plan.hooks():
            for place, mask in self.sights().items():
                seen = [self._plan.state_of(number) for number in numbers_in(mask)]
                if place[0] == watch.watched_hook() and any([watch.breaks_look(state) for state in seen]):
                    return False
        return watch.watched_deed() not in self._entries or self._show_runs(watch)

    def _show_runs(self, watch):
        deed = watch.watched_deed()
        begins = spots_of(self._plan, watch, self._entries[deed])
        if begins == 0:
            return True
        pair = Flow(self._plan, watch, self._table).ends_from(deed, begins)
        many = self._plan.many()
        for way, mask in zip((WELL, FAILED), pair):
            for spot in numbers_in(mask):
                if watch.breaks_end(spot // many, way, self._plan.state_of(spot % many)):
                    return False
        return True


def ends_between(plan, table, between):
    """The mask of the states in which the table lets open deeds end from the states between."""
    found = 0
    for deed in plan.open_deeds():
        for number in numbers_in(between):
            found = found | table[deed][number][0] | table[deed][number][1]
    return found


def least_facts(plan):
    """What the least record says."""
    table = least_table(plan)
    between = 1 << plan.first_number()
    more = between
    while more > 0:
        more = ends_between(plan, table, between) & ~between
        between = between | more
    is_open = plan.open_deeds()
    entries = {deed: between if deed in is_open else 0 for deed in plan.deeds()}
    flow = Flow(plan, Watch(), table)
    grows = True
    while grows:
        called = flow.calls_and_sights(entries)[0]
        grows = any([called[deed] & ~entries[deed] for deed in called])
        entries = {deed: entries[deed] | called[deed] for deed in called}
    return Facts(plan, table, entries, between)


def facts_of(plan, value):
    """What any value says, if it has the form of a record; None if it has not."""
    if not isinstance(value, tuple) or len(value) != 3:
        return None
    table = _table_told(plan, value[0])
    entries = _entries_told(plan, value[1])
    between = _states_told(plan, value[2])
    if table is None or entries is None or between is None:
        return None
    return Facts(plan, table, entries, between)


def _table_told(plan, value):
    """The table that any value is; None if it is none for all deeds and states."""
    if not isinstance(value, dict) or not all([_is_key(plan, key) for key in value]):
        return None
    if len(value) != len(plan.deeds()) * plan.many():
        return None
    table = {deed: [(0, 0) for _ in range(plan.many())] for deed in plan.deeds()}
    for key, ends in value.items():
        pair = _ends_told(plan, ends)
        if pair is None:
            return None
        table[key[0]][plan.number_of(key[1])] = pair
    return table


def _is_key(plan, value):
    return isinstance(value, tuple) and len(value) == 2 and plan.has_deed(value[0]) and plan.has_state(value[1])


def _ends_told(plan, value):
    """The masks of the ends in any value; None if it is no list of different ends."""
    if not is_list(value) or not all([_is_end(end) for end in value]):
        return None
    well = _states_told(plan, [end[1] for end in value if end[0] == WELL])
    failed = _states_told(plan, [end[1] for end in value if end[0] == FAILED])
    return None if well is None or failed is None else (well, failed)


def _is_end(value):
    # The states are told apart from all else when their mask is made.
    return isinstance(value, tuple) and len(value) == 2 and is_way(value[0])


def _entries_told(plan, value):
    """The masks of where runs begin in any value; None if it is no dict from all deeds to lists of states."""
    if not isinstance(value, dict) or not all([plan.has_deed(key) for key in value]):
        return None
    if len(value) != len(plan.deeds()):
        return None
    entries = {deed: _states_told(plan, states) for deed, states in value.items()}
    return None if None in list(entries.values()) else entries


def _states_told(plan, value):
    """The mask of the states in any value; None if it is no list of different states."""
    if not is_list(value) or not all([plan.has_state(state) for state in value]):
        return None
    mask = mask_of([plan.number_of(state) for state in value])
    return mask if len(numbers_in(mask)) == len(value) else None

