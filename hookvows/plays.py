"""Least plays: how few acts and calls it takes to end a run so, or to break a vow."""

from hookvows.checks import check_deed, check_host, check_state, check_way
from hookvows.facts import least_facts
from hookvows.graphs import WANTED, HostGraph
from hookvows.plans import Plan
from hookvows.routes import route_of
from hookvows.search import Search
from hookvows.vows import check_vow
from hookvows.watches import Watch


def fewest_acts(host, deed, state, way, end):
    """The least cost of a script with which a run of the deed from the state ends so; None if it never does."""
    graph, search = _search_of_runs(host, deed, state, way, end)
    return search.least_cost(graph.start_of_runs(deed, state), graph.end_of_runs(way, end))


def script_to(host, deed, state, way, end):
    """A script with the least cost with which a run of the deed from the state ends so; None if it never does."""
    graph, search = _search_of_runs(host, deed, state, way, end)
    start = graph.start_of_runs(deed, state)
    stop = graph.end_of_runs(way, end)
    return None if search.least_cost(start, stop) is None else route_of(search, start, stop).script


def breaking_cost(host, vow):
    """The least cost of a play that breaks the vow; None if it is kept."""
    graph, search = _search_of_breaks(host, vow)
    return None if search is None else search.least_cost(graph.start_of_plays(), WANTED)


def breaking_play(host, vow):
    """A play with the least cost that breaks the vow; None if it is kept."""
    graph, search = _search_of_breaks(host, vow)
    if search is None:
        return None
    search.least_cost(graph.start_of_plays(), WANTED)
    return route_of(search, graph.start_of_plays(), WANTED)


def _search_of_breaks(host, vow):
    """The graph and the Search of plays that break the vow; None and None if it is kept, which is known sooner."""
    check_host(host)
    check_vow(host, vow)
    plan = Plan(host)
    if least_facts(plan).show(vow):
        return None, None
    graph = HostGraph(plan, vow)
    return graph, Search(graph)


def _search_of_runs(host, deed, state, way, end):
    check_host(host)
    check_deed(host, deed)
    check_state(host, state)
    check_way(way)
    check_state(host, end)
    graph = HostGraph(Plan(host), Watch())
    return graph, Search(graph)
