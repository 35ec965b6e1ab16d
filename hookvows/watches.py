"""What can be watched in plays."""


class Watch:
    """What is watched in plays. This one watches nothing; a vow is one that watches for what breaks it.

    Each run of the watched deed has a mark, a count, that the steps change which it does as own steps.
    """

    def watched_deed(self):
        """The deed whose runs have marks; no deed is called as this is, if there is none."""
        return ""

    def watched_hook(self):
        """The hook at which looks are watched; no hook is called as this is, if there is none."""
        return ""

    def many_marks(self):
        """How many marks there are."""
        return 1

    def mark_at(self, state):
        """The mark of a run that begins in the state."""
        return 0

    def mark_behind(self, mark, step):
        """The mark of a run behind the step, which had this mark ahead of it."""
        return mark

    def breaks_end(self, mark, way, state):
        """Whether it breaks the vow that a run with this mark ends so."""
        return False

    def breaks_look(self, state):
        """Whether it breaks the vow that a part sees the state at the watched hook."""
        return False

    def breaks_stand(self, state):
        """Whether it breaks the vow that the state stands ahead of, between or behind the calls from outside."""
        return False
