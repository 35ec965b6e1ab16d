"""Hosts at work: parts that are added to them, calls from outside, and what the runs were."""

from hookvows.basics import is_count, is_list
from hookvows.checks import check_deed, check_host, check_play, check_rank, check_script, check_state, is_open, is_rank
from hookvows.errors import InvalidParts, NotOpen, UnknownPart
from hookvows.hosts import RANKS
from hookvows.programs import Program
from hookvows.scripts import Script
from hookvows.work import Work

DOINGS = ("called", "did", "fired", "ended")


class Run:
    """What a run from outside was, as its trace tells."""

    def __init__(self, deed, begin, trace):
        self._deed = deed
        self._begin = begin
        self._trace = list(trace)
        # The last item is the end of the run itself.
        self._way = trace[-1][2]
        self._state = trace[-1][3]

    @property
    def deed(self):
        """The deed that was run."""
        return self._deed

    @property
    def begin(self):
        """The state in which the run began."""
        return self._begin

    @property
    def way(self):
        """The way in which the run ended."""
        return self._way

    @property
    def state(self):
        """The state in which the run ended."""
        return self._state

    def trace(self):
        """The list of all that happened in the run, in sequence."""
        return list(self._trace)

    def doings(self):
        """The calls, steps, firings and ends of the trace."""
        return [item for item in self._trace if item[0] in DOINGS]

    def looks(self):
        """The looks of the trace."""
        return [item for item in self._trace if item[0] == "looked"]

    def sequence(self):
        """All of the trace but the visits."""
        return [item for item in self._trace if item[0] != "visited"]


class Visit:
    """What the action of a part gets: by its methods the part does its acts."""

    def __init__(self, turn):
        self._turn = turn
        self._hook = turn.at_hook
        self._rank = turn.at_rank

    @property
    def hook(self):
        """The hook that is fired."""
        return self._hook

    @property
    def rank(self):
        """The rank of the part."""
        return self._rank

    def look(self):
        """The present state; None if the visit is over."""
        return self._turn.look()

    def lend(self, box, value):
        """Gives the box this value; whether this was let."""
        return self._turn.start(("lend", box, value))

    def door(self, deed):
        """Runs the deed; the way of the run, or None if it was not let."""
        return self._turn.way_of(("door", deed))

    def inner(self):
        """Lets come what is within; its way, or None if it was not let or the firing ended in it."""
        return self._turn.way_of(("inner",))

    def swallow(self):
        """Lets come what is within, whose failure ends here; its way, or None as for inner."""
        return self._turn.way_of(("swallow",))

    def answer(self):
        """Lets the firing end well at once; whether this was let."""
        return self._turn.start(("answer",))

    def skip(self):
        """Leaves out what is within; whether this was let."""
        return self._turn.start(("skip",))

    def fail(self):
        """Lets the firing fail at once; whether this was let."""
        return self._turn.start(("fail",))


class Driver:
    """An action that does the acts of a script: each visit takes the next row."""

    def __init__(self, script):
        check_script(script)
        self._rows = script.rows()
        self._taken = 0

    @property
    def left(self):
        """How many rows have not been taken."""
        return len(self._rows) - self._taken

    def next_row(self):
        """Takes the next row; behind the last one there are only empty ones."""
        if self._taken == len(self._rows):
            return []
        self._taken += 1
        return list(self._rows[self._taken - 1])

    def __call__(self, visit):
        for act in self.next_row():
            _do_act(visit, act)


def _do_act(visit, act):
    word = act[0]
    if word == "look":
        visit.look()
    elif word == "lend":
        visit.lend(act[1], act[2])
    elif word == "door":
        visit.door(act[1])
    elif word == "inner":
        visit.inner()
    elif word == "swallow":
        visit.swallow()
    elif word == "answer":
        visit.answer()
    elif word == "skip":
        visit.skip()
    else:
        visit.fail()


class Part:
    """A part that takes part in every hook at its rank."""

    def __init__(self, number, rank, action):
        self.number = number
        self.at_rank = rank
        self.there = True
        # The part that the same Guest has added ahead of this one, and not removed yet.
        self.outer = None
        self._action = action

    def visit(self, turn):
        """The acts of the part in this visit, if a Driver tells them; otherwise its action is asked for."""
        # The rows of a Driver are left to the run itself, which can be as deep as it likes then.
        if isinstance(self._action, Driver):
            return self._action.next_row()
        turn.ask(self._action, Visit(turn))
        return []


class Live:
    """A host at work: it has a present state, and parts."""

    def __init__(self, host):
        check_host(host)
        self._host = host
        self._program = Program(host)
        self._state = host.first
        self._parts = []
        self._added = 0

    @property
    def host(self):
        """The Host that is at work."""
        return self._host

    @property
    def state(self):
        """The present state."""
        return self._state

    @state.setter
    def state(self, state):
        """Makes this the present state."""
        self.set_state(state)

    def set_state(self, state):
        """Makes this the present state."""
        check_state(self._host, state)
        self._state = tuple(state)

    def add(self, rank, action):
        """Adds a part at the rank; its number."""
        return self.new_part(rank, action).number

    def new_part(self, rank, action):
        """Adds a part at the rank; the part itself."""
        check_rank(rank)
        part = Part(self._added, rank, action)
        self._added += 1
        self._parts.append(part)
        return part

    def remove(self, number):
        """Removes the part with this number."""
        found = [part for part in self._present_parts() if is_count(number) and part.number == number]
        if len(found) == 0:
            raise UnknownPart(number)
        part = found[0]
        part.there = False

    def parts(self):
        """The list of the tuples (number, rank) of the parts that are there."""
        return [(part.number, part.at_rank) for part in self._present_parts()]

    def call(self, deed):
        """Runs the open deed from the present state; the Run."""
        if not is_open(self._host, deed):
            raise NotOpen(deed)
        work = Work(self._host, self._program, self._present_parts(), self._state)
        work.run(deed)
        run = Run(deed, self._state, work.trace())
        self._state = run.state
        return run

    def _present_parts(self):
        return [part for part in self._parts if part.there]


class Guest:
    """A part that is there as long as a block is done: with Guest(live, rank, action) as number."""

    def __init__(self, live, rank, action):
        check_rank(rank)
        self._live = live
        self._rank = rank
        self._action = action
        self._part = None

    def __enter__(self):
        part = self._live.new_part(self._rank, self._action)
        # One Guest can be used in a block of its own again.
        part.outer = self._part
        self._part = part
        return part.number

    def __exit__(self, kind, value, trace):
        part = self._part
        part.there = False
        self._part = part.outer


def call_with(live, rank, action, *deeds):
    """The list of the Runs of the deeds, called one after another while a part with this action is there."""
    runs = []
    with Guest(live, rank, action):
        for deed in deeds:
            runs.append(live.call(deed))
    return runs


def run_script(host, deed, state, script):
    """The Run of any deed of the host from the state, driven by the script."""
    _check_run(host, deed, state)
    driver = Driver(script)
    return Run(deed, tuple(state), _worked(host, deed, state, [(rank, driver) for rank in RANKS]).trace())


def run_parts(host, deed, state, parts):
    """The Run of any deed of the host from the state, with parts that are driven by a script each."""
    _check_run(host, deed, state)
    return Run(deed, tuple(state), _worked(host, deed, state, _drivers(parts)).trace())


def as_one(host, deed, state, parts):
    """The Script with which one part at each rank does in this run what the parts do."""
    _check_run(host, deed, state)
    rows = _worked(host, deed, state, _drivers(parts)).rows()
    return Script(*rows)


def play_all(host, play):
    """The list of the Runs of the play."""
    # The log of a run begins with its call and the state in which it begins.
    return [Run(deed, work.log()[1][2], work.trace()) for deed, work in _works(host, play)]


def play_logs(host, play):
    """The list of the logs of the runs of the play: their traces, and what stands beside these."""
    return [work.log() for _, work in _works(host, play)]


def _works(host, play):
    """The list of the calls of the play, each a tuple of the deed and the Work behind its run."""
    check_host(host)
    check_play(host, play)
    program = Program(host)
    driver = Driver(play.script)
    parts = [Part(number, rank, driver) for number, rank in enumerate(RANKS)]
    works = []
    state = host.first
    for deed in play.calls():
        work = Work(host, program, parts, state)
        work.run(deed)
        works.append((deed, work))
        state = work.present()
    return works


def _check_run(host, deed, state):
    check_host(host)
    check_deed(host, deed)
    check_state(host, state)


def _drivers(parts):
    if not is_list(parts) or not all([_is_part(part) for part in parts]):
        raise InvalidParts(parts)
    return [(rank, Driver(script)) for rank, script in parts]


def _is_part(value):
    return isinstance(value, tuple) and len(value) == 2 and is_rank(value[0]) and isinstance(value[1], Script)


def _worked(host, deed, state, drivers):
    """The Work of a run, behind its end."""
    parts = [Part(number, rank, driver) for number, (rank, driver) in enumerate(drivers)]
    work = Work(host, Program(host), parts, tuple(state))
    work.run(deed)
    return work
