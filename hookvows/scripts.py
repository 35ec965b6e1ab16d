"""Acts, scripts of them, and plays: calls that a script drives."""

from hookvows.basics import is_below, is_list, is_name
from hookvows.boxes import Boxes
from hookvows.errors import InvalidPlay, InvalidScript

# The acts that are one word alone.
PLAIN_ACTS = ("look", "inner", "swallow", "answer", "skip", "fail")


def is_act(value):
    """Whether any value is an act, of whatever host and rank."""
    if not isinstance(value, tuple) or len(value) == 0 or not isinstance(value[0], str):
        return False
    if value[0] == "lend":
        return len(value) == 3 and is_name(value[1]) and is_below(value[2], Boxes.MOST_VALUES)
    if value[0] == "door":
        return len(value) == 2 and is_name(value[1])
    return len(value) == 1 and value[0] in PLAIN_ACTS


class Script:
    """Rows of acts: each visit takes the next one."""

    def __init__(self, *rows):
        for position, row in enumerate(rows):
            if not is_list(row) or not all([is_act(act) for act in row]):
                raise InvalidScript(position)
        self._rows = [[tuple(act) for act in row] for row in rows]

    def rows(self):
        """The list of the rows, lists of acts."""
        return [list(row) for row in self._rows]

    @property
    def cost(self):
        """The number of the acts of all rows."""
        return sum([len(row) for row in self._rows])

    def __len__(self):
        return len(self._rows)

    def __add__(self, other):
        if not isinstance(other, Script):
            raise InvalidScript(None)
        rows = [*self._rows, *other._rows]
        return Script(*rows)

    def __eq__(self, other):
        return isinstance(other, Script) and self._rows == other._rows


class Play:
    """Calls from outside, one after another, and the script that drives the parts in all of them."""

    def __init__(self, calls, script):
        if not is_list(calls) or not all([is_name(deed) for deed in calls]):
            raise InvalidPlay(calls)
        if not isinstance(script, Script):
            raise InvalidScript(None)
        self._calls = list(calls)
        self._script = script

    def calls(self):
        """The list of the names of the deeds that are called."""
        return list(self._calls)

    @property
    def script(self):
        """The Script that drives the parts."""
        return self._script

    @property
    def cost(self):
        """The number of the calls and the cost of the script."""
        return len(self._calls) + self._script.cost

    def __eq__(self, other):
        return isinstance(other, Play) and self._calls == other._calls and self._script == other._script
