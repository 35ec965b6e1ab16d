"""The statements of which the bodies of deeds and the cores of hooks are made."""

from hookvows.basics import checked_name, is_below
from hookvows.boxes import Boxes
from hookvows.errors import InvalidBody, InvalidValue


class Statement:
    """The base of all statements: one without parts. Callers make no objects of it."""

    def bodies(self):
        """The list of the bodies of the statement, lists."""
        return []

    def many(self):
        """How many statements this is, itself and all within it."""
        return 1

    def __eq__(self, other):
        return isinstance(other, Statement)


class Do(Statement):
    """Does a step, a name that is only noted."""

    def __init__(self, step):
        self._step = checked_name(step)

    @property
    def step(self):
        """The step that is done."""
        return self._step

    def bodies(self):
        """No bodies."""
        return []

    def many(self):
        """One statement."""
        return 1

    def __eq__(self, other):
        return isinstance(other, Do) and self._step == other._step


class Put(Statement):
    """Gives the box this value."""

    def __init__(self, box, value):
        self._box = checked_name(box)
        # No property: errors have an attribute of this name, which is one here, too.
        self.value = _checked_value(value)

    @property
    def box(self):
        """The box that is given a value."""
        return self._box

    def bodies(self):
        """No bodies."""
        return []

    def many(self):
        """One statement."""
        return 1

    def __eq__(self, other):
        return isinstance(other, Put) and self._box == other._box and self.value == other.value


class Fire(Statement):
    """Fires a hook; fails if the firing fails."""

    def __init__(self, hook):
        self._hook = checked_name(hook)

    @property
    def hook(self):
        """The hook that is fired."""
        return self._hook

    def bodies(self):
        """No bodies."""
        return []

    def many(self):
        """One statement."""
        return 1

    def __eq__(self, other):
        return isinstance(other, Fire) and self._hook == other._hook


class Call(Statement):
    """Runs a deed; fails if the run fails."""

    def __init__(self, deed):
        self._deed = checked_name(deed)

    @property
    def deed(self):
        """The deed that is run."""
        return self._deed

    def bodies(self):
        """No bodies."""
        return []

    def many(self):
        """One statement."""
        return 1

    def __eq__(self, other):
        return isinstance(other, Call) and self._deed == other._deed


class If(Statement):
    """Does the body if the box has this value, otherwise the other body."""

    def __init__(self, box, value, body, other=()):
        self._box = checked_name(box)
        # No property: errors have an attribute of this name, which is one here, too.
        self.value = _checked_value(value)
        self._body = _copied_body(body)
        self._other = _copied_body(other)
        self._many = 1 + _many_in(self._body) + _many_in(self._other)

    @property
    def box(self):
        """The box whose value decides."""
        return self._box

    def bodies(self):
        """The body, and the other body."""
        return [list(self._body), list(self._other)]

    def many(self):
        """How many statements this is, itself and all within it."""
        return self._many

    def __eq__(self, other):
        if not isinstance(other, If) or self._box != other._box or self.value != other.value:
            return False
        return self._body == other._body and self._other == other._other


class Last(Statement):
    """Does the body, then in any case the body last."""

    def __init__(self, body, last):
        self._body = _copied_body(body)
        self._last = _copied_body(last)
        self._many = 1 + _many_in(self._body) + _many_in(self._last)

    def bodies(self):
        """The body, and the body last."""
        return [list(self._body), list(self._last)]

    def many(self):
        """How many statements this is, itself and all within it."""
        return self._many

    def __eq__(self, other):
        return isinstance(other, Last) and self._body == other._body and self._last == other._last


class Guard(Statement):
    """Does the body; if it fails, does the other body."""

    def __init__(self, body, other=()):
        self._body = _copied_body(body)
        self._other = _copied_body(other)
        self._many = 1 + _many_in(self._body) + _many_in(self._other)

    def bodies(self):
        """The body, and the other body."""
        return [list(self._body), list(self._other)]

    def many(self):
        """How many statements this is, itself and all within it."""
        return self._many

    def __eq__(self, other):
        return isinstance(other, Guard) and self._body == other._body and self._other == other._other


class Fail(Statement):
    """Fails."""

    def bodies(self):
        """No bodies."""
        return []

    def many(self):
        """One statement."""
        return 1

    def __eq__(self, other):
        return isinstance(other, Fail)


def is_body(value):
    """Whether any value is a BODY: a list of statements, perhaps empty."""
    if not isinstance(value, (list, tuple)):
        return False
    return all([isinstance(part, Statement) for part in value])


def _checked_value(value):
    # The boxes of the host are not known yet: any value that some box has will do.
    if not is_below(value, Boxes.MOST_VALUES):
        raise InvalidValue(value)
    return value


def _copied_body(value):
    if not is_body(value):
        raise InvalidBody(value)
    return list(value)


def _many_in(body):
    return sum([statement.many() for statement in body])
