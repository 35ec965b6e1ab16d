"""A desk: a host and named vows, which change; each change can be taken back."""

from hookvows.basics import checked_name, is_name
from hookvows.checks import check_host
from hookvows.commands import read_command
from hookvows.errors import CommandFailed, HookError, InvalidVow, LimitError, MissingError, NothingToUndo, StateError
from hookvows.errors import UnknownVow
from hookvows.facts import least_facts
from hookvows.plans import Plan
from hookvows.plays import breaking_cost
from hookvows.records import outcomes
from hookvows.vows import check_vow


class Page:
    """All that a desk has at some time; it does not change. The page ahead of it is that of the time before."""

    def __init__(self, host, vows, before):
        self.held_host = host
        self.held_vows = {name: vows[name] for name in sorted(vows, key=str)}
        self.before = before
        self.number = 0 if before is None else before.number + 1


class Desk:
    """A host and named vows."""

    def __init__(self, host):
        check_host(host)
        self._page = Page(host, {}, None)

    @property
    def host(self):
        """The Host."""
        return self._page.held_host

    @host.setter
    def host(self, host):
        """Puts this host in the place of the present one."""
        self.set_host(host)

    @property
    def changes(self):
        """How many changes can be taken back."""
        return self._page.number

    def set_host(self, host):
        """Puts this host in the place of the present one."""
        check_host(host)
        for vow in self._page.held_vows.values():
            if not vow.fits(host):
                raise InvalidVow(vow)
        self._change(host, self._page.held_vows)

    def __getitem__(self, at):
        if not self._has_vow(at):
            raise UnknownVow(at)
        return self._page.held_vows[at]

    def __setitem__(self, at, worth):
        name = checked_name(at)
        host = self._page.held_host
        check_vow(host, worth)
        vows = self._page.held_vows
        self._change(host, {**vows, name: worth})

    def __iter__(self):
        raise TypeError("a desk is not iterated over")

    def __len__(self):
        return len(self._page.held_vows)

    def names(self):
        """The sorted list of the names of the vows."""
        return list(self._page.held_vows)

    def drop(self, name):
        """Drops the vow with this name."""
        if not self._has_vow(name):
            raise UnknownVow(name)
        vows = self._page.held_vows
        self._change(self._page.held_host, {other: vows[other] for other in vows if other != name})

    def seal(self, powers):
        """Takes these powers of the host away."""
        self._change(self._page.held_host - powers, self._page.held_vows)

    def give(self, powers):
        """Gives the host these further powers."""
        self._change(self._page.held_host + powers, self._page.held_vows)

    def broken(self):
        """The sorted list of the names of the vows that are broken."""
        facts = least_facts(Plan(self._page.held_host))
        return [name for name, vow in self._page.held_vows.items() if not facts.show(vow)]

    def undo(self):
        """Takes back the last change that was not taken back."""
        if self._page.before is None:
            raise NothingToUndo()
        self._page = self._page.before

    def copy(self):
        """A Desk with the same host, vows and changes, which changes independently."""
        other = Desk(self._page.held_host)
        other._page = self._page
        return other

    def page(self):
        """All that the desk has now."""
        return self._page

    def do(self, command):
        """Performs the command; its answer."""
        told = read_command(self._page.held_host.boxes, command)
        word = told[0]
        if word == "broken":
            names = self.broken()
            return " ".join(names) if len(names) > 0 else "none"
        if word == "cost":
            cost = breaking_cost(self._page.held_host, self[told[1]])
            return "kept" if cost is None else str(cost)
        if word == "outcomes":
            return self._outcomes_told(told[1], told[2])
        if word == "seal":
            self.seal([told[1]])
        elif word == "give":
            self.give([told[1]])
        elif word == "drop":
            self.drop(told[1])
        else:
            self.undo()
        return "done"

    def do_all(self, *commands):
        """Performs the commands; the list of their answers. If one of them raises an error, nothing has changed."""
        page = self._page
        answers = []
        for position, command in enumerate(commands):
            try:
                answers.append(self.do(command))
            except (HookError, MissingError, StateError, LimitError) as error:
                self._page = page
                raise CommandFailed(position) from error
        return answers

    def _outcomes_told(self, deed, state):
        host = self._page.held_host
        return "; ".join([f"{way}: {host.boxes.text(end)}" for way, end in outcomes(host, deed, state)])

    def _has_vow(self, value):
        # Only a name is looked up: other values may have no hash.
        return is_name(value) and value in self._page.held_vows

    def _change(self, host, vows):
        self._page = Page(host, vows, self._page)


class Past:
    """What a Trial has to bring back at the end of a block."""

    def __init__(self, page, outer):
        self.page_then = page
        # One Trial can be used in a block of its own again: this is what belongs to the block around.
        self.outer = outer


class Trial:
    """Changes of a desk that are all taken back at the end of a block: with Trial(desk) as desk."""

    def __init__(self, desk):
        self._desk = desk
        self._past = None
        # What is brought back next.
        self._then = None

    def __enter__(self):
        self._past = Past(self._desk.page(), self._past)
        return self._desk

    def __exit__(self, kind, value, trace):
        past = self._past
        self._then = past.page_then
        self._past = past.outer
        self._bring_back()

    def _bring_back(self):
        desk = self._desk
        desk._page = self._then


def tried(desk, *commands):
    """What do_all returns for the commands; all is as it was at the end."""
    with Trial(desk) as tried_desk:
        return tried_desk.do_all(*commands)
