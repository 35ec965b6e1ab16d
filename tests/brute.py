"""All plays of small cost, one after another: what has a least cost is tried out."""

import itertools

from hookvows.hosts import RANKS
from hookvows.scripts import Play, Script
from tests.model import Model


def acts_of(host):
    """All acts that are let at some hook and rank of the host."""
    found = {("look",), ("inner",)}
    for _, _, verb, name in host.powers():
        if verb == "lend":
            found |= {("lend", name, value) for value in range(host.boxes.size(name))}
        elif verb == "door":
            found.add(("door", name))
        elif verb != "again":
            found.add((verb,))
    return sorted(found)


def visits_of(host, calls, rows, state=None):
    """How many visits there are in a play with these rows, by the model."""
    rows = [list(row) for row in rows]
    many = 0
    state = host.first if state is None else state
    for deed in calls:
        model = Model(host, state, [(rank, rows) for rank in RANKS])
        model.run(deed)
        many += sum(item[0] == "visited" for item in model.trace)
        state = model.state()
    return many


def each_rows(acts, most, visits, rows=()):
    """All lists of rows with at most so many acts, without rows that no visit takes; visits tells how many there are."""
    yield list(rows)
    if most == 0:
        return
    room = visits(rows) - len(rows)
    for empty in range(room):
        for many in range(1, most + 1):
            for row in itertools.product(acts, repeat=many):
                yield from each_rows(acts, most - many, visits, (*rows, *[()] * empty, row))


def each_script(host, deed, state, most):
    """All scripts of small cost for a run of the deed from the state."""
    for rows in each_rows(acts_of(host), most, lambda rows: visits_of(host, [deed], rows, state)):
        yield Script(*rows)


def each_play(hosts, most):
    """All plays of small cost, for one host or for several that can be compared."""
    for many in range(most + 1):
        for calls in itertools.product(hosts[0].open_deeds(), repeat=many):
            def visits(rows):
                return max(visits_of(host, calls, rows) for host in hosts)

            for rows in each_rows(acts_of(hosts[0]), most - many, visits):
                yield Play(calls, Script(*rows))
