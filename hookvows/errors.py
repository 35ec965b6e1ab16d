"""The errors that the package raises; each keeps what it was made with."""


class HookError(ValueError):
    """A value that is passed is not of the kind that is asked for."""


class InvalidName(HookError):
    """A value is no NAME."""

    def __init__(self, value):
        self.value = value


class InvalidSizes(HookError):
    """A value is no dict from names to the sizes of boxes."""

    def __init__(self, value):
        self.value = value


class InvalidBoxes(HookError):
    """A value is no Boxes."""

    def __init__(self, value):
        self.value = value


class InvalidState(HookError):
    """A value is no state, or no text of a state, of the boxes."""

    def __init__(self, value):
        self.value = value


class InvalidValue(HookError):
    """A value is none that a box has."""

    def __init__(self, value):
        self.value = value


class InvalidStates(HookError):
    """A value is no list of states, or no States."""

    def __init__(self, value):
        self.value = value


class InvalidBody(HookError):
    """A value is no list of statements."""

    def __init__(self, value):
        self.value = value


class InvalidDeeds(HookError):
    """A value is no list of deeds, each a name and a body."""

    def __init__(self, value):
        self.value = value


class InvalidDeed(HookError):
    """The deed of this name has a body that does not fit its host."""

    def __init__(self, name):
        self.name = name


class InvalidHooks(HookError):
    """A value is no dict from the names of hooks to their cores."""

    def __init__(self, value):
        self.value = value


class InvalidHook(HookError):
    """The hook of this name has a core that does not fit its host."""

    def __init__(self, name):
        self.name = name


class InvalidOpen(HookError):
    """A value is no list of deeds that can be open."""

    def __init__(self, value):
        self.value = value


class InvalidPowers(HookError):
    """A value is no list of different powers."""

    def __init__(self, value):
        self.value = value


class InvalidHost(HookError):
    """A value is no Host."""

    def __init__(self, value):
        self.value = value


class InvalidRank(HookError):
    """A value is no rank."""

    def __init__(self, value):
        self.value = value


class InvalidScript(HookError):
    """The row at this position is none; None if there is no script at all."""

    def __init__(self, position):
        self.position = position


class InvalidPlay(HookError):
    """A value is no play, or not the calls of one."""

    def __init__(self, value):
        self.value = value


class InvalidParts(HookError):
    """A value is no list of parts, each a rank and a script."""

    def __init__(self, value):
        self.value = value


class InvalidVow(HookError):
    """A value is no vow that fits the host."""

    def __init__(self, value):
        self.value = value


class InvalidVows(HookError):
    """A value is no list of vows that fit the host."""

    def __init__(self, value):
        self.value = value


class InvalidWays(HookError):
    """A value is no way, or these are no different ways."""

    def __init__(self, value):
        self.value = value


class InvalidPrices(HookError):
    """A value is no dict from powers to their prices."""

    def __init__(self, value):
        self.value = value


class InvalidText(HookError):
    """This line of a text is wrong; None if there is no text at all."""

    def __init__(self, line):
        self.line = line


class InvalidClaim(HookError):
    """A value is no claim."""

    def __init__(self, value):
        self.value = value


class InvalidCommand(HookError):
    """A value is no command."""

    def __init__(self, value):
        self.value = value


class MissingError(LookupError):
    """Nothing is there under the value that is passed."""


class UnknownBox(MissingError):
    """No box has this name."""

    def __init__(self, value):
        self.value = value


class UnknownDeed(MissingError):
    """No deed has this name."""

    def __init__(self, value):
        self.value = value


class UnknownHook(MissingError):
    """No hook has this name."""

    def __init__(self, value):
        self.value = value


class UnknownVow(MissingError):
    """No vow is kept under this name."""

    def __init__(self, value):
        self.value = value


class UnknownPart(MissingError):
    """No part that is there has this number."""

    def __init__(self, value):
        self.value = value


class StateError(RuntimeError):
    """What is asked for can not be done with these objects as they are."""


class OtherBoxes(StateError):
    """Two objects have different boxes."""

    def __init__(self, one, other):
        self.one = one
        self.other = other


class OtherHosts(StateError):
    """Two hosts can not be compared."""

    def __init__(self, one, other):
        self.one = one
        self.other = other


class NotOpen(StateError):
    """No open deed has this name."""

    def __init__(self, value):
        self.value = value


class NothingToUndo(StateError):
    """There is no change that could be taken back."""

    def __init__(self):
        # Without this method the class would take arguments, as RuntimeError does.
        pass


class CommandFailed(StateError):
    """The command at this position raised an error."""

    def __init__(self, position):
        self.position = position


class LimitError(ArithmeticError):
    """There is more of something than the limit lets be."""


class TooMany(LimitError):
    """There are more of these than the limit."""

    def __init__(self, what, limit):
        self.what = what
        self.limit = limit
