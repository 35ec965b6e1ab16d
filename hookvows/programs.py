"""Bodies and cores as points, so that a run needs no more than to know at which one it stands.

A point is a tuple (word, name, number, well, failed): what is done there, with which name and number, and the
points at which the run goes on behind it, if this ended well and if it failed.
"""

from hookvows.statements import Call, Do, Fire, Guard, If, Last, Put

WELL = "well"
FAILED = "failed"

# The places of the two points at which each body ends.
END_WELL = 0
END_FAILED = 1


class Program:
    """The points of all bodies and cores of a host."""

    def __init__(self, host):
        self._points = [("end", WELL, 0, 0, 0), ("end", FAILED, 0, 0, 0)]
        self._of_deeds = {}
        for deed in host.deeds():
            self._of_deeds[deed] = self._entry(host.body(deed), END_WELL, END_FAILED)
        self._of_hooks = {}
        for hook in host.hooks():
            self._of_hooks[hook] = self._entry(host.core(hook), END_WELL, END_FAILED)

    def start_of(self, deed):
        """The place of the point at which the body of the deed begins."""
        return self._of_deeds[deed]

    def start_of_core(self, hook):
        """The place of the point at which the core of the hook begins."""
        return self._of_hooks[hook]

    def point(self, place):
        """The point at this place."""
        return self._points[place]

    def points(self):
        """The list of all points; those to which a point leads stand ahead of it."""
        return list(self._points)

    def _entry(self, body, well, failed):
        """The place where the body begins, which goes on at well or at failed when it has ended so."""
        for statement in body[::-1]:
            well = self._place_of(statement, well, failed)
        return well

    def _place_of(self, statement, well, failed):
        if isinstance(statement, Do):
            return self._new_point("do", statement.step, 0, well, failed)
        if isinstance(statement, Put):
            return self._new_point("put", statement.box, statement.value, well, failed)
        if isinstance(statement, Fire):
            return self._new_point("fire", statement.hook, 0, well, failed)
        if isinstance(statement, Call):
            return self._new_point("call", statement.deed, 0, well, failed)
        if isinstance(statement, If):
            body, other = statement.bodies()
            then, otherwise = self._entry(body, well, failed), self._entry(other, well, failed)
            return self._new_point("if", statement.box, statement.value, then, otherwise)
        if isinstance(statement, Last):
            body, last = statement.bodies()
            # The body last stands twice: it can not tell by itself whether the body failed.
            behind_failed = self._entry(last, failed, failed)
            behind_well = behind_failed if well == failed else self._entry(last, well, failed)
            return self._entry(body, behind_well, behind_failed)
        if isinstance(statement, Guard):
            body, other = statement.bodies()
            return self._entry(body, well, self._entry(other, well, failed))
        # What is left is Fail.
        return failed

    def _new_point(self, word, name, number, well, failed):
        self._points.append((word, name, number, well, failed))
        return len(self._points) - 1
