"""A run from outside while it goes on: its state, its trace, and all that is open within one another in it."""

from hookvows.basics import is_below
from hookvows.bodies import CoreBody, RunBody
from hookvows.hosts import RANKS
from hookvows.visits import Firing

# What stands in the log of a run beside its trace: ("begun", deed, state) where a run begins, ("door", deed, way) where
# a run through a door ends, ("inner", way) where what a part let come is over.
BESIDE_THE_TRACE = ("begun", "door", "inner")


class Work:
    """A run from outside, which is a list of frames: bodies, firings and visits, each within the one ahead of it.

    The last frame goes on. When it closes, the frame ahead of it is told in which way. So runs can be open within
    one another however deep, as long as the parts are scripts.
    """

    def __init__(self, host, program, parts, state):
        self._host = host
        self._program = program
        self._at_ranks = {rank: [part for part in parts if part.at_rank == rank] for rank in RANKS}
        self._state = state
        self._log = []
        self._rows = []
        self._frames = []
        self._asked = None

    def run(self, deed):
        """Runs the deed from the present state."""
        self.start_deed(deed)
        while len(self._frames) > 0:
            asked = self.go_on()
            if asked is not None:
                action, visit = asked
                action(visit)

    def go_on(self):
        """Lets the last frame go on; the action that it asks for, with its visit, or None."""
        self._frames[-1].go()
        asked = self._asked
        self._asked = None
        return asked

    def ask(self, action, visit):
        """Asks for the action, which is called with this visit as soon as the last frame has gone on."""
        self._asked = (action, visit)

    def depth(self):
        """How many frames are open."""
        return len(self._frames)

    def start_deed(self, deed):
        """Lets a run of the deed begin."""
        self.note(("called", deed))
        self.note(("begun", deed, self._state))
        self.push(RunBody(self, deed, self._program.start_of(deed)))

    def start_firing(self, hook):
        """Lets a firing of the hook begin."""
        self.note(("fired", hook))
        self.push(Firing(self, hook))

    def start_core(self, firing):
        """Lets the core of the hook of the firing come."""
        self.push(CoreBody(self, firing, self._program.start_of_core(firing.at_hook)))

    def push(self, frame):
        """Opens a frame."""
        self._frames.append(frame)

    def close(self, way):
        """Closes the last frame, and tells the way in which it ended."""
        self._frames.pop()
        if len(self._frames) > 0:
            self._frames[-1].told(way)

    def note(self, item):
        """Notes what happens in the log."""
        self._log.append(item)

    def new_row(self):
        """A list for the acts at a rank that a firing comes to."""
        row = []
        self._rows.append(row)
        return row

    def point(self, place):
        """The point of the program at this place."""
        return self._program.point(place)

    def parts_at(self, rank):
        """The parts at this rank, in sequence."""
        return self._at_ranks[rank]

    def lets(self, hook, rank, verb, name):
        """Whether this is a power of the host."""
        return self._host.lets((hook, rank, verb, name))

    def present(self):
        """The present state."""
        return self._state

    def holds(self, box, value):
        """Whether the box has this value now."""
        return self._host.boxes.value_of(self._state, box) == value

    def set_box(self, box, value):
        """Gives the box this value."""
        self._state = self._host.boxes.put(self._state, box, value)

    def has_value(self, box, value):
        """Whether any value is one of this box."""
        return is_below(value, self._host.boxes.size(box))

    def log(self):
        """The list of all that has happened, in sequence."""
        return list(self._log)

    def trace(self):
        """The trace: the log without what stands beside the trace."""
        return [item for item in self._log if item[0] not in BESIDE_THE_TRACE]

    def rows(self):
        """The rows of the script with which one part at each rank does the same."""
        return [list(row) for row in self._rows]
