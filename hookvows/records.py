"""Outcomes, records and sights: what can surely not be otherwise, whatever parts there are."""

from hookvows.checks import check_deed, check_host, check_state
from hookvows.facts import facts_of, least_facts
from hookvows.flows import least_table
from hookvows.masks import numbers_in
from hookvows.plans import Plan
from hookvows.programs import FAILED, WELL


def outcomes(host, deed, state):
    """The sorted list of the tuples (way, state) with which runs of the deed from the state can end."""
    check_host(host)
    check_deed(host, deed)
    check_state(host, state)
    plan = Plan(host)
    return _ends_listed(plan, least_table(plan)[deed][plan.number_of(state)])


def record(host):
    """The least record of the host, a tuple (table, entries, between)."""
    check_host(host)
    plan = Plan(host)
    facts = least_facts(plan)
    deeds = sorted(plan.deeds(), key=str)
    table = {}
    for deed in deeds:
        for number in range(plan.many()):
            table[(deed, plan.state_of(number))] = _ends_listed(plan, facts.ends_of(deed, number))
    entries = {deed: _states_listed(plan, facts.entries_of(deed)) for deed in deeds}
    return table, entries, _states_listed(plan, facts.between())


def is_record(host, value):
    """Whether any value is a record of the host."""
    check_host(host)
    facts = facts_of(Plan(host), value)
    return facts is not None and facts.are_closed()


def sights(host):
    """The dict from all tuples (hook, rank) to the sorted lists of the states that a part can see there."""
    check_host(host)
    plan = Plan(host)
    seen = least_facts(plan).sights()
    return {place: _states_listed(plan, seen[place]) for place in sorted(seen, key=str)}


def _states_listed(plan, mask):
    return [plan.state_of(number) for number in numbers_in(mask)]


def _ends_listed(plan, pair):
    # The ways stand as they are sorted.
    failed = [(FAILED, state) for state in _states_listed(plan, pair[1])]
    return failed + [(WELL, state) for state in _states_listed(plan, pair[0])]
