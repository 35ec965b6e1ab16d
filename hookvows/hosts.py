"""Hosts: boxes, deeds, hooks, and the powers that tell what parts may do."""

from hookvows.basics import is_list, is_name
from hookvows.boxes import Boxes
from hookvows.errors import InvalidBoxes, InvalidDeed, InvalidDeeds, InvalidHook, InvalidHooks, InvalidOpen
from hookvows.errors import InvalidPowers, InvalidState, TooMany, UnknownDeed, UnknownHook
from hookvows.statements import Call, Do, Fire, If, Put, is_body

RANKS = ("ahead", "around", "behind")
VERBS = {
    "ahead": ("lend", "door", "fail", "answer"),
    "around": ("lend", "door", "fail", "skip", "again", "swallow"),
    "behind": ("lend", "door", "fail"),
}
WORDS_OF_A_POWER = 4


class Host:
    """Boxes with a first state, deeds, some of them open, hooks with their cores, and powers."""

    MOST_DEEDS = 5
    MOST_HOOKS = 4
    MOST_STATEMENTS = 40

    def __init__(self, boxes, first, deeds, hooks, open_deeds, powers):
        _check_all(boxes, first, deeds, hooks, open_deeds, powers)
        self._boxes = boxes
        self._first = tuple(first)
        self._bodies = {name: list(body) for name, body in deeds}
        self._cores = {name: list(hooks[name]) for name in sorted(hooks, key=str)}
        self._open = [name for name, _ in deeds if name in open_deeds]
        self._powers = {power: True for power in sorted([tuple(power) for power in powers], key=str)}
        self._statements = _all_in(list(self._bodies.values()) + list(self._cores.values()))
        self._check_bodies()
        self._check_limits()

    def _check_bodies(self):
        ahead = []
        for name, body in self._bodies.items():
            if not _fits(body, self._boxes, ahead, list(self._cores)):
                raise InvalidDeed(name)
            ahead = [*ahead, name]
        for name, core in self._cores.items():
            if not _fits(core, self._boxes, [], []):
                raise InvalidHook(name)

    def _check_limits(self):
        if len(self._bodies) > self.MOST_DEEDS:
            raise TooMany("deeds", self.MOST_DEEDS)
        if len(self._cores) > self.MOST_HOOKS:
            raise TooMany("hooks", self.MOST_HOOKS)
        if len(self._statements) > self.MOST_STATEMENTS:
            raise TooMany("statements", self.MOST_STATEMENTS)

    @property
    def boxes(self):
        """The Boxes of the host."""
        return self._boxes

    @property
    def first(self):
        """The first state."""
        return self._first

    def deeds(self):
        """The list of the names of the deeds, in sequence."""
        return list(self._bodies)

    def body(self, deed):
        """The list of the statements of the body of the deed."""
        if deed not in self:
            raise UnknownDeed(deed)
        return list(self._bodies[deed])

    def hooks(self):
        """The sorted list of the names of the hooks."""
        return list(self._cores)

    def core(self, hook):
        """The list of the statements of the core of the hook."""
        # Only a name is looked up: other values may have no hash.
        if not is_name(hook) or hook not in self._cores:
            raise UnknownHook(hook)
        return list(self._cores[hook])

    def open_deeds(self):
        """The list of the names of the open deeds, in the sequence of the deeds."""
        return list(self._open)

    def powers(self):
        """The sorted list of the powers."""
        return list(self._powers)

    def steps(self):
        """The sorted list of the steps of all bodies and cores, each once."""
        found = {statement.step: True for statement in self._statements if isinstance(statement, Do)}
        return sorted(found, key=str)

    def lets(self, power):
        """Whether any value is a power of the host."""
        # Only strings are looked up: other values may have no hash, or an == of their own.
        return _is_tuple_of_words(power) and power in self._powers

    def all_powers(self):
        """The sorted list of all powers for the boxes, deeds and hooks of the host."""
        found = []
        for hook in self._cores:
            for rank in RANKS:
                for verb in VERBS[rank]:
                    names = _names_for(verb, self._boxes.names(), list(self._bodies))
                    found.extend([(hook, rank, verb, name) for name in names])
        return sorted(found, key=str)

    def from_state(self, state):
        """The host with another first state."""
        return self._like(state, self.powers())

    def __len__(self):
        return len(self._statements)

    def __contains__(self, value):
        return is_name(value) and value in self._bodies

    def __eq__(self, other):
        if not isinstance(other, Host) or self._boxes != other._boxes or self._first != other._first:
            return False
        # Two dicts are equal in whatever sequence, but the sequence of deeds is a part of the host.
        if list(self._bodies) != list(other._bodies) or self._bodies != other._bodies:
            return False
        return self._cores == other._cores and self._open == other._open and self._powers == other._powers

    def __sub__(self, other):
        if not is_list(other) or not all([self.lets(power) for power in other]) or _has_equal_ones(other):
            raise InvalidPowers(other)
        return self._like(self._first, [power for power in self._powers if power not in other])

    def __add__(self, other):
        if not _are_powers(other, self._boxes, list(self._bodies), list(self._cores)):
            raise InvalidPowers(other)
        further = [power for power in other if power not in self._powers]
        return self._like(self._first, [*self.powers(), *further])

    def _like(self, first, powers):
        return Host(self._boxes, first, list(self._bodies.items()), self._cores, self._open, powers)


def _check_all(boxes, first, deeds, hooks, open_deeds, powers):
    if not isinstance(boxes, Boxes):
        raise InvalidBoxes(boxes)
    if first not in boxes:
        raise InvalidState(first)
    if not _are_deeds(deeds):
        raise InvalidDeeds(deeds)
    if not _are_hooks(hooks):
        raise InvalidHooks(hooks)
    names = [name for name, _ in deeds]
    if not _are_names_among(open_deeds, names):
        raise InvalidOpen(open_deeds)
    if not _are_powers(powers, boxes, names, list(hooks)):
        raise InvalidPowers(powers)


def is_power(value, boxes, deeds, hooks):
    """Whether any value is a power for these boxes and these names of deeds and hooks."""
    if not _is_tuple_of_words(value):
        return False
    hook, rank, verb, name = value
    if hook not in hooks or rank not in RANKS or verb not in VERBS[rank]:
        return False
    return name in _names_for(verb, boxes.names(), deeds)


def _are_deeds(value):
    if not is_list(value) or len(value) == 0 or not all([_is_deed(deed) for deed in value]):
        return False
    return not _has_equal_ones([name for name, _ in value])


def _is_deed(value):
    return isinstance(value, tuple) and len(value) == 2 and is_name(value[0]) and is_body(value[1])


def _are_hooks(value):
    if not isinstance(value, dict):
        return False
    return all([is_name(name) and is_body(core) for name, core in value.items()])


def _are_names_among(value, names):
    if not is_list(value) or not all([is_name(name) and name in names for name in value]):
        return False
    return not _has_equal_ones(value)


def _are_powers(value, boxes, deeds, hooks):
    if not is_list(value) or not all([is_power(power, boxes, deeds, hooks) for power in value]):
        return False
    return not _has_equal_ones(value)


def _has_equal_ones(values):
    return len(set(values)) < len(values)


def _is_tuple_of_words(value):
    if not isinstance(value, tuple) or len(value) != WORDS_OF_A_POWER:
        return False
    return all([isinstance(word, str) for word in value])


def _names_for(verb, boxes, deeds):
    """The names that stand in the powers with this verb."""
    if verb == "lend":
        return boxes
    if verb == "door":
        return deeds
    return [""]


def _fits(body, boxes, deeds, hooks):
    """Whether all statements, at any place, have boxes and values that there are, and call and fire these alone."""
    for statement in _all_in([body]):
        if isinstance(statement, Put) or isinstance(statement, If):
            if statement.box not in boxes.names() or statement.value >= boxes.size(statement.box):
                return False
        if isinstance(statement, Fire) and statement.hook not in hooks:
            return False
        if isinstance(statement, Call) and statement.deed not in deeds:
            return False
    return True


def _all_in(bodies):
    """All statements of the bodies, those within statements included."""
    found = []
    for body in bodies:
        for statement in body:
            found.append(statement)
            found.extend(_all_in(statement.bodies()))
    return found
