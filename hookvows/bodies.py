"""The bodies of deeds and the cores of hooks, while they are done in a run from outside."""

from hookvows.programs import WELL


class Body:
    """A body that is done, point by point."""

    def __init__(self, work, place):
        self._work = work
        self._place = place

    def go(self):
        """Does what stands at the present point."""
        word, name, number, well, failed = self._work.point(self._place)
        if word == "do":
            self._work.note(("did", name))
            self._place = well
        elif word == "put":
            self._work.set_box(name, number)
            self._place = well
        elif word == "if":
            self._place = well if self._work.holds(name, number) else failed
        elif word == "fire":
            self._work.start_firing(name)
        elif word == "call":
            self._work.start_deed(name)
        else:
            self.end(name)

    def told(self, way):
        """Goes on behind the point that fired or called, which has ended in this way."""
        well, failed = self._work.point(self._place)[3:]
        self._place = well if way == WELL else failed

    def end(self, way):
        """Ends in this way."""
        self._work.close(way)


class RunBody(Body):
    """The body of a deed that runs."""

    def __init__(self, work, deed, place):
        super().__init__(work, place)
        self._deed = deed

    def end(self, way):
        """Ends in this way, which the trace tells."""
        self._work.note(("ended", self._deed, way, self._work.present()))
        super().end(way)


class CoreBody(Body):
    """The core of a hook that is fired."""

    def __init__(self, work, firing, place):
        super().__init__(work, place)
        self._firing = firing

    def end(self, way):
        """Ends in this way, which the firing has to know, however far around it a failure is swallowed."""
        self._firing.core_ended(way)
        super().end(way)
