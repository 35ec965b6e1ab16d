"""Boxes with their sizes, and the states that they can be in."""

from hookvows.basics import is_below, is_integer, is_name
from hookvows.errors import InvalidSizes, InvalidState, InvalidValue, TooMany, UnknownBox

LEAST_VALUES = 2


class Boxes:
    """One to four boxes; a state has a value for each, in the sorted order of their names."""

    MOST_BOXES = 4
    MOST_VALUES = 4
    MOST_STATES = 16

    def __init__(self, sizes):
        if not self._are_sizes(sizes):
            raise InvalidSizes(sizes)
        # The boxes are counted first, so that few states are ever made in vain.
        if len(sizes) > self.MOST_BOXES:
            raise TooMany("boxes", self.MOST_BOXES)
        names = sorted(sizes, key=str)
        self._sizes = {name: sizes[name] for name in names}
        self._places = {name: place for place, name in enumerate(names)}
        self._states = _all_states([sizes[name] for name in names])
        if len(self._states) > self.MOST_STATES:
            raise TooMany("states", self.MOST_STATES)
        self._by_text = {self.text(state): state for state in self._states}

    def _are_sizes(self, sizes):
        if not isinstance(sizes, dict) or len(sizes) == 0:
            return False
        return all([is_name(name) and self._is_size(size) for name, size in sizes.items()])

    def _is_size(self, size):
        return is_integer(size) and LEAST_VALUES <= size <= self.MOST_VALUES

    def names(self):
        """The sorted list of the names of the boxes."""
        return list(self._sizes)

    def size(self, box):
        """How many values the box has."""
        self._check_box(box)
        return self._sizes[box]

    def states(self):
        """The sorted list of all states."""
        return list(self._states)

    def __len__(self):
        return len(self._states)

    def __contains__(self, value):
        if not isinstance(value, tuple) or len(value) != len(self._sizes):
            return False
        # True == 1, so to look for the value among the states would not be enough.
        return all([is_below(part, size) for size, part in zip(self._sizes.values(), value)])

    def value_of(self, state, box):
        """The value that the box has in the state."""
        self._check_state(state)
        self._check_box(box)
        return state[self._places[box]]

    def put(self, state, box, value):
        """The state in which the box has this value, and the others have theirs of this state."""
        self._check_state(state)
        self._check_box(box)
        if not is_below(value, self._sizes[box]):
            raise InvalidValue(value)
        place = self._places[box]
        return state[:place] + (value,) + state[place + 1:]

    def text(self, state):
        """The text of the state: NAME=VALUE for each box, separated by single spaces."""
        self._check_state(state)
        return " ".join([f"{name}={value}" for name, value in zip(self._sizes, state)])

    def read(self, text):
        """The state that has this text."""
        if not isinstance(text, str) or text not in self._by_text:
            raise InvalidState(text)
        return self._by_text[text]

    def __eq__(self, other):
        return isinstance(other, Boxes) and self._sizes == other._sizes

    def _check_state(self, state):
        if state not in self:
            raise InvalidState(state)

    def _check_box(self, box):
        # Only a name is looked up: other values may have no hash.
        if not is_name(box) or box not in self._sizes:
            raise UnknownBox(box)


def _all_states(sizes):
    # Grown place by place with ascending values, the states come out sorted.
    states = [()]
    for size in sizes:
        states = [state + (value,) for state in states for value in range(size)]
    return states
