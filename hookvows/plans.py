"""A host in numbers: its states are numbered as they are sorted, its bodies are the points of its program."""

from hookvows.phases import phases_of
from hookvows.programs import Program


class Plan:
    """A host, worked out as far as all that is reckoned from it needs it alike."""

    def __init__(self, host):
        boxes = host.boxes
        self._host = host
        self._states = boxes.states()
        self._numbers = {state: number for number, state in enumerate(self._states)}
        self._values = {}
        self._strides = {}
        stride = len(self._states)
        for place, box in enumerate(boxes.names()):
            stride = stride // boxes.size(box)
            self._strides[box] = stride
            self._values[box] = [state[place] for state in self._states]
        self._program = Program(host)
        self._phases = {hook: phases_of(host, hook) for hook in host.hooks()}
        self._walks = {}

    def many(self):
        """How many states there are."""
        return len(self._states)

    def has_state(self, value):
        """Whether any value is a state."""
        return value in self._host.boxes

    def has_deed(self, value):
        """Whether any value is the name of a deed."""
        return value in self._host

    def state_of(self, number):
        """The state with this number."""
        return self._states[number]

    def number_of(self, state):
        """The number of the state."""
        return self._numbers[state]

    def first_number(self):
        """The number of the first state."""
        return self._numbers[self._host.first]

    def deeds(self):
        """The list of the names of the deeds, in sequence."""
        return self._host.deeds()

    def open_deeds(self):
        """The list of the names of the open deeds, in sequence."""
        return self._host.open_deeds()

    def hooks(self):
        """The sorted list of the names of the hooks."""
        return self._host.hooks()

    def moves_in(self, hook, phase):
        """The list of the moves of a phase of a firing of the hook."""
        return list(self._phases[hook][phase])

    def values_of(self, box):
        """The list of the values of the box in all states."""
        return list(self._values[box])

    def lent(self, number, box, value):
        """The number of the state in which the box has this value, and the others have theirs of this one."""
        return number + (value - self._values[box][number]) * self._strides[box]

    def shift(self, box, more):
        """What is added to the number of a state if the value of the box grows by so much."""
        return more * self._strides[box]

    def start_of(self, deed):
        """The place of the point at which the body of the deed begins."""
        return self._program.start_of(deed)

    def point(self, place):
        """The point at this place."""
        return self._program.point(place)

    def points(self):
        """The list of all points; those to which a point leads stand ahead of it."""
        return self._program.points()

    def core_from(self, hook, number):
        """What the core of the hook does from the state with this number: its way, its end, and its steps."""
        _, way, _, behind, steps = self.walk(self._program.start_of_core(hook), number)
        return way, behind, steps

    def walk(self, place, number):
        """Goes from the point on, as far as nothing is fired, called or ended.

        Tells the word and the name of the point where this is, its place, the number of the state, and the steps.
        """
        key = (place, number)
        if key not in self._walks:
            self._walks[key] = self._walked(place, number)
        return self._walks[key]

    def _walked(self, place, number):
        steps = []
        word, name, value, well, failed = self._program.point(place)
        while word == "do" or word == "put" or word == "if":
            place = well
            if word == "do":
                steps.append(name)
            elif word == "put":
                number = self.lent(number, name, value)
            elif self._values[name][number] != value:
                place = failed
            word, name, value, well, failed = self._program.point(place)
        return word, name, place, number, tuple(steps)
