"""Sets of states."""

from hookvows.basics import is_below, is_list
from hookvows.boxes import Boxes
from hookvows.errors import InvalidBoxes, InvalidState, InvalidStates, InvalidValue, OtherBoxes


class States:
    """A set of states of the same boxes."""

    def __init__(self, boxes, states):
        _check_boxes(boxes)
        if not is_list(states):
            raise InvalidStates(states)
        for state in states:
            if state not in boxes:
                raise InvalidState(state)
        self._boxes = boxes
        self._kept = {tuple(state): True for state in sorted(states, key=str)}

    @staticmethod
    def every(boxes):
        """The set of all states of the boxes."""
        _check_boxes(boxes)
        return States(boxes, boxes.states())

    @staticmethod
    def where(boxes, box, *values):
        """The set of the states in which the box has one of these values."""
        _check_boxes(boxes)
        many = boxes.size(box)
        for value in values:
            if not is_below(value, many):
                raise InvalidValue(value)
        return States(boxes, [state for state in boxes.states() if boxes.value_of(state, box) in values])

    @property
    def boxes(self):
        """The Boxes of the states."""
        return self._boxes

    def states(self):
        """The sorted list of the states."""
        return list(self._kept)

    def __len__(self):
        return len(self._kept)

    def __contains__(self, value):
        # True == 1, so to look for the value among the states would not be enough.
        return value in self._boxes and value in self._kept

    def __and__(self, other):
        self._check_other(other)
        return States(self._boxes, [state for state in self._kept if state in other])

    def __or__(self, other):
        self._check_other(other)
        return States(self._boxes, [*self._kept, *other._kept])

    def __sub__(self, other):
        self._check_other(other)
        return States(self._boxes, [state for state in self._kept if state not in other])

    def __invert__(self):
        return States(self._boxes, [state for state in self._boxes.states() if state not in self._kept])

    def __le__(self, other):
        self._check_other(other)
        return all([state in other for state in self._kept])

    def __lt__(self, other):
        return self <= other and len(self) < len(other)

    def __eq__(self, other):
        return isinstance(other, States) and self._boxes == other._boxes and self._kept == other._kept

    def _check_other(self, other):
        if not isinstance(other, States):
            raise InvalidStates(other)
        if self._boxes != other.boxes:
            raise OtherBoxes(self._boxes, other.boxes)


def _check_boxes(boxes):
    if not isinstance(boxes, Boxes):
        raise InvalidBoxes(boxes)
