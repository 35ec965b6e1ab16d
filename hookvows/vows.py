"""Vows: what a host surely does, whatever parts there are; whether they are kept, and what shows or breaks them."""

from hookvows.basics import checked_name, is_list
from hookvows.checks import check_host, check_play, is_way
from hookvows.errors import InvalidStates, InvalidVow, InvalidVows, InvalidWays, OtherBoxes
from hookvows.facts import facts_of, least_facts
from hookvows.live import play_logs
from hookvows.plans import Plan
from hookvows.programs import FAILED, WELL
from hookvows.sets import States
from hookvows.watches import Watch


class Vow(Watch):
    """The base of all vows, which says nothing. Callers make no objects of it."""

    def fits(self, host):
        """Whether the vow fits the host."""
        check_host(host)
        return True

    def __eq__(self, other):
        return isinstance(other, Vow)


class Sure(Vow):
    """Each run of the deed that ends in one of the ways has done the step."""

    def __init__(self, deed, step, *ways):
        self._deed = checked_name(deed)
        self._step = checked_name(step)
        self._ways = _checked_ways(ways)

    @property
    def deed(self):
        """The deed whose runs are asked."""
        return self._deed

    @property
    def step(self):
        """The step that is surely done."""
        return self._step

    def ways(self):
        """The sorted list of the ways in which the runs end that are asked."""
        return list(self._ways)

    def fits(self, host):
        """Whether the host has the deed."""
        check_host(host)
        return self._deed in host

    def __eq__(self, other):
        if not isinstance(other, Sure) or self._deed != other._deed:
            return False
        return self._step == other._step and self._ways == other._ways

    def watched_deed(self):
        """The deed."""
        return self._deed

    def many_marks(self):
        """Two: whether the step has been done."""
        return 2

    def mark_behind(self, mark, step):
        """1 behind the step."""
        return 1 if step == self._step else mark

    def breaks_end(self, mark, way, state):
        """Whether the step is missing."""
        return mark == 0 and way in self._ways


class Once(Vow):
    """No run of the deed does the step twice."""

    def __init__(self, deed, step):
        self._deed = checked_name(deed)
        self._step = checked_name(step)

    @property
    def deed(self):
        """The deed whose runs are asked."""
        return self._deed

    @property
    def step(self):
        """The step that is done at most once."""
        return self._step

    def fits(self, host):
        """Whether the host has the deed."""
        check_host(host)
        return self._deed in host

    def __eq__(self, other):
        return isinstance(other, Once) and self._deed == other._deed and self._step == other._step

    def watched_deed(self):
        """The deed."""
        return self._deed

    def many_marks(self):
        """Three: how often the step has been done, as far as this matters."""
        return 3

    def mark_behind(self, mark, step):
        """One more behind the step, up to 2."""
        return mark + 1 if step == self._step and mark < 2 else mark

    def breaks_end(self, mark, way, state):
        """Whether the step has been done twice."""
        return mark == 2


class Behind(Vow):
    """Each run of the deed that does the step has done the step first ahead of it."""

    def __init__(self, deed, step, first):
        self._deed = checked_name(deed)
        self._step = checked_name(step)
        self._first = checked_name(first)

    @property
    def deed(self):
        """The deed whose runs are asked."""
        return self._deed

    @property
    def step(self):
        """The step that is done behind the other one alone."""
        return self._step

    @property
    def first(self):
        """The step that is done first."""
        return self._first

    def fits(self, host):
        """Whether the host has the deed."""
        check_host(host)
        return self._deed in host

    def __eq__(self, other):
        if not isinstance(other, Behind) or self._deed != other._deed:
            return False
        return self._step == other._step and self._first == other._first

    def watched_deed(self):
        """The deed."""
        return self._deed

    def many_marks(self):
        """Three: nothing has been done, the step first has been done ahead of the other, or the vow is broken."""
        return 3

    def mark_behind(self, mark, step):
        """What the step makes of a run that has done neither."""
        if mark > 0:
            return mark
        # If both are the same step, the first doing of it has none ahead of it.
        if step == self._step:
            return 2
        return 1 if step == self._first else 0

    def breaks_end(self, mark, way, state):
        """Whether the step has been done too early."""
        return mark == 2


class Whole(Vow):
    """At the hook parts see allowed states alone."""

    def __init__(self, hook, allowed):
        self._hook = checked_name(hook)
        self._allowed = _checked_states(allowed)

    @property
    def hook(self):
        """The hook at which looks are asked."""
        return self._hook

    @property
    def allowed(self):
        """The States that may be seen."""
        return self._allowed

    def fits(self, host):
        """Whether the host has the hook, and the boxes of the states."""
        check_host(host)
        return self._hook in host.hooks() and self._allowed.boxes == host.boxes

    def __eq__(self, other):
        return isinstance(other, Whole) and self._hook == other._hook and self._allowed == other._allowed

    def watched_hook(self):
        """The hook."""
        return self._hook

    def breaks_look(self, state):
        """Whether the state is not allowed."""
        return state not in self._allowed


class Left(Vow):
    """Each run of the deed that begins in a state of begin, and ends in one of the ways, ends in a state of ends."""

    def __init__(self, deed, begin, ends, *ways):
        self._deed = checked_name(deed)
        self._begin = _checked_states(begin)
        self._ends = _checked_states(ends)
        if begin.boxes != ends.boxes:
            raise OtherBoxes(begin.boxes, ends.boxes)
        self._ways = _checked_ways(ways)

    @property
    def deed(self):
        """The deed whose runs are asked."""
        return self._deed

    @property
    def begin(self):
        """The States in which the runs begin that are asked."""
        return self._begin

    @property
    def ends(self):
        """The States in which these runs end."""
        return self._ends

    def ways(self):
        """The sorted list of the ways in which the runs end that are asked."""
        return list(self._ways)

    def fits(self, host):
        """Whether the host has the deed, and the boxes of the states."""
        check_host(host)
        return self._deed in host and self._begin.boxes == host.boxes

    def __eq__(self, other):
        if not isinstance(other, Left) or self._deed != other._deed or self._ways != other._ways:
            return False
        return self._begin == other._begin and self._ends == other._ends

    def watched_deed(self):
        """The deed."""
        return self._deed

    def many_marks(self):
        """Two: whether the run began in a state of begin."""
        return 2

    def mark_at(self, state):
        """1 for the states of begin."""
        return 1 if state in self._begin else 0

    def breaks_end(self, mark, way, state):
        """Whether the run is one of those that are asked, and the state is not one of ends."""
        return mark == 1 and way in self._ways and state not in self._ends


class Kept(Vow):
    """The first state, and the states in which calls from outside end, are allowed."""

    def __init__(self, allowed):
        self._allowed = _checked_states(allowed)

    @property
    def allowed(self):
        """The States that may stand between calls."""
        return self._allowed

    def fits(self, host):
        """Whether the host has the boxes of the states."""
        check_host(host)
        return self._allowed.boxes == host.boxes

    def __eq__(self, other):
        return isinstance(other, Kept) and self._allowed == other._allowed

    def breaks_stand(self, state):
        """Whether the state is not allowed."""
        return state not in self._allowed


def _checked_states(value):
    if not isinstance(value, States):
        raise InvalidStates(value)
    return value


def _checked_ways(ways):
    """The sorted list of the ways; without any, it is the list of both."""
    if not all([is_way(way) for way in ways]) or len(set(ways)) < len(ways):
        raise InvalidWays(ways)
    return sorted(ways, key=str) if len(ways) > 0 else [FAILED, WELL]


def is_vow_of(host, value):
    """Whether any value is a vow that fits the host."""
    return isinstance(value, Vow) and value.fits(host)


def are_vows_of(host, value):
    """Whether any value is a list of one or more vows that fit the host."""
    return is_list(value) and len(value) > 0 and all([is_vow_of(host, vow) for vow in value])


def check_vow(host, vow):
    """The vow must be one that fits the host."""
    if not is_vow_of(host, vow):
        raise InvalidVow(vow)


def check_vows(host, vows):
    """The vows must be a list of one or more vows that fit the host."""
    if not are_vows_of(host, vows):
        raise InvalidVows(vows)


def is_kept(host, vow):
    """Whether no play of the host breaks the vow."""
    check_host(host)
    check_vow(host, vow)
    return are_kept(host, [vow])


def are_kept(host, vows):
    """Whether all these vows, which fit the host, are kept."""
    facts = least_facts(Plan(host))
    return all([facts.show(vow) for vow in vows])


def shows(host, value, vow):
    """Whether any value is a record of the host that shows the vow."""
    check_host(host)
    check_vow(host, vow)
    return shows_all(host, value, [vow])


def shows_all(host, value, vows):
    """Whether any value is a record of the host that shows all these vows, which fit the host."""
    facts = facts_of(Plan(host), value)
    return facts is not None and facts.are_closed() and all([facts.show(vow) for vow in vows])


def breaks(host, play, vow):
    """Whether the vow is broken in this play."""
    check_host(host)
    check_play(host, play)
    check_vow(host, vow)
    if vow.breaks_stand(host.first):
        return True
    return any([_breaks_log(log, vow) for log in play_logs(host, play)])


def _breaks_log(log, vow):
    """Whether a call from outside with this log breaks the vow."""
    deeds = []
    marks = []
    for item in log:
        if item[0] == "begun":
            deeds.append(item[1])
            marks.append(vow.mark_at(item[2]))
        elif item[0] == "did":
            # Steps are those of the last run that has not ended.
            marks[-1] = vow.mark_behind(marks[-1], item[1])
        elif item[0] == "looked":
            if item[1] == vow.watched_hook() and vow.breaks_look(item[3]):
                return True
        elif item[0] == "ended":
            mark = marks.pop()
            if deeds.pop() == vow.watched_deed() and vow.breaks_end(mark, item[2], item[3]):
                return True
    return vow.breaks_stand(log[-1][3])
