"""The firings of hooks, and the visits of the parts at them.

A part has an attribute at_rank and a method visit(turn), which returns a list of acts that are done then. Instead it
may ask, by the turn, for an action to be called that does its acts by the methods of the turn.
"""

from hookvows.hosts import RANKS
from hookvows.programs import FAILED, WELL

AROUND = "around"


class Firing:
    """A firing of a hook, which goes from rank to rank."""

    def __init__(self, work, hook):
        self.at_hook = hook
        self._work = work
        self._coming = list(RANKS)
        self._rank = ""
        self._row = []
        # How many visits the firing itself lets begin at this rank, and how many of them have begun.
        self._visits = 0
        self._visited = 0
        self._ended = None
        self._core_came = False
        self._failed_cores = []

    def go(self):
        """Lets the next visit begin, or comes to the next rank, or ends."""
        if self._ended is not None:
            self._work.close(self._ended)
        elif self._visited < self._visits:
            self._visited += 1
            self.come(self._visited - 1)
        elif len(self._coming) > 0:
            self._come_to_rank(self._coming.pop(0))
        else:
            self._work.close(WELL)

    def _come_to_rank(self, rank):
        self._rank = rank
        self._row = self._work.new_row()
        self._visited = 0
        # Around, the first visit has all the others within it; without a part, the core comes in its place.
        self._visits = 1 if rank == AROUND else len(self._work.parts_at(rank))

    def come(self, level):
        """Lets the visit of the part at this place of the rank begin, or the core, if there is no such part."""
        parts = self._work.parts_at(self._rank)
        if level < len(parts):
            self._work.note(("visited", self.at_hook, self._rank))
            self._work.push(Turn(self._work, self, parts[level], level))
        else:
            self._core_came = True
            self._row.append(("inner",))
            self._work.start_core(self)

    def told(self, way):
        """Goes on behind a visit, or behind the core, which has ended in this way."""
        if self._ended is not None:
            return
        if self._rank == AROUND and not self._core_came:
            self._row.append(("skip",))
        if way == FAILED:
            self._ended = FAILED

    def end(self, way):
        """Ends in this way at once, whatever is around."""
        self._ended = way

    def has_ended(self):
        """Whether an act has ended the firing."""
        return self._ended is not None

    def note(self, act):
        """Notes an act that was let in the row of this rank."""
        self._row.append(act)

    def core_ended(self, way):
        """Keeps the place of the core in its row, if it failed: a part may swallow this later."""
        if way == FAILED:
            self._failed_cores.append(len(self._row) - 1)

    def done(self):
        """How many acts the row of this rank has up to now."""
        return len(self._row)

    def swallow_since(self, done):
        """Tells of the cores that came and failed behind so many acts that their failures were swallowed."""
        while len(self._failed_cores) > 0 and self._failed_cores[-1] >= done:
            place = self._failed_cores.pop()
            self._row[place] = ("swallow",)


class Turn:
    """The visit of a part, in which it does its acts one after another."""

    def __init__(self, work, firing, part, level):
        self.at_hook = firing.at_hook
        self.at_rank = part.at_rank
        self._work = work
        self._firing = firing
        self._part = part
        self._level = level
        self._begun = False
        self._acts = []
        self._done = 0
        self._over = False
        # Whether what is within has come, or will never come: at the other ranks there is nothing within.
        self._settled = part.at_rank != AROUND
        self._broken = False
        # The word of the act that waits for what it let begin, its deed, and how many acts its row had ahead of it.
        self._awaited = ""
        self._opened = ""
        self._since = 0
        self._answer = None

    def go(self):
        """Begins, or does the next act, or ends."""
        if not self._begun:
            self._begun = True
            self._acts = self._part.visit(self)
        elif self._done < len(self._acts) and not self.is_over():
            self._done += 1
            self.start(self._acts[self._done - 1])
        else:
            self._finish()

    def _finish(self):
        self._over = True
        if self._settled or self._firing.has_ended():
            self._work.close(FAILED if self._broken else WELL)
        else:
            self._let_come("inner")

    def _let_come(self, word):
        self._settled = True
        self._awaited = word
        self._since = self._firing.done()
        self._firing.come(self._level + 1)

    def told(self, way):
        """Goes on behind a run through a door, or behind what is within, which has ended in this way."""
        self._answer = way
        if self._firing.has_ended():
            return
        # What comes within without an act comes when the visit is over.
        if not self._over:
            self._work.note(("door", self._opened, way) if self._awaited == "door" else ("inner", way))
        if way == WELL:
            return
        if self._awaited == "swallow":
            self._firing.swallow_since(self._since)
        elif self._awaited == "inner":
            self._broken = True

    def is_over(self):
        """Whether the visit is over, so that its acts do nothing."""
        return self._over or self._firing.has_ended()

    def start(self, act):
        """Does the act, or lets begin what it asks for; whether it was let."""
        if self.is_over() or not self._is_let(act):
            return False
        word = act[0]
        if word == "inner" or word == "swallow":
            self._let_come(word)
            return True
        if word == "skip":
            self._settled = True
            self._over = True
            return True
        self._firing.note(act)
        if word == "look":
            self._work.note(("looked", self.at_hook, self.at_rank, self._work.present()))
        elif word == "lend":
            self._work.set_box(act[1], act[2])
        elif word == "door":
            self._awaited = word
            self._opened = act[1]
            self._work.start_deed(act[1])
        else:
            self._firing.end(WELL if word == "answer" else FAILED)
        return True

    def _is_let(self, act):
        word = act[0]
        if word == "look":
            return True
        if word == "lend":
            return self._has("lend", act[1]) and self._work.has_value(act[1], act[2])
        if word == "door":
            return self._has("door", act[1])
        if word == "inner":
            return self.at_rank == AROUND and (not self._settled or self._has("again", ""))
        if word == "swallow":
            return self._has("swallow", "") and (not self._settled or self._has("again", ""))
        return self._has(word, "")

    def _has(self, verb, name):
        return self._work.lets(self.at_hook, self.at_rank, verb, name)

    def way_of(self, act):
        """Does an act that lets something begin, up to its end; the way of this, or None."""
        depth = self._work.depth()
        if not self.start(act):
            return None
        # An action is called right here: each call between two of them would take from how deep they can go.
        while self._work.depth() > depth:
            asked = self._work.go_on()
            if asked is not None:
                action, visit = asked
                action(visit)
        return None if self._firing.has_ended() else self._answer

    def ask(self, action, visit):
        """Asks for the action, which is called with this visit."""
        self._work.ask(action, visit)

    def look(self):
        """Looks, and tells the present state; None if the visit is over."""
        return self._work.present() if self.start(("look",)) else None
