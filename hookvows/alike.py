"""What a play shows at a host, and whether two hosts are alike to all parts."""

from hookvows.checks import check_host
from hookvows.errors import OtherHosts
from hookvows.graphs import WANTED
from hookvows.live import play_logs
from hookvows.pairs import PairGraph
from hookvows.plans import Plan
from hookvows.routes import route_of
from hookvows.search import Search


def sightings(host, play, steps=False):
    """The list of what the play shows at the host; with steps it has the steps, too."""
    found = []
    for log in play_logs(host, play):
        for item in log:
            if item[0] in ("visited", "door", "inner") or (item[0] == "did" and steps):
                found.append(item)
            elif item[0] == "looked":
                found.append(("looked", item[3]))
        # The last item is the end of the call from outside.
        found.append(("ended", log[-1][2], log[-1][3]))
    return found


def can_compare(one, other):
    """Whether the hosts differ at most in their bodies, cores, sequences of deeds and first states."""
    check_host(one)
    check_host(other)
    if one.boxes != other.boxes or one.hooks() != other.hooks() or one.powers() != other.powers():
        return False
    if sorted(one.deeds(), key=str) != sorted(other.deeds(), key=str):
        return False
    return sorted(one.open_deeds(), key=str) == sorted(other.open_deeds(), key=str)


def are_alike(one, other, steps=False):
    """Whether every play shows the same at both hosts."""
    graph, search = _search_of_both(one, other, steps)
    return search.least_cost(graph.start_of_plays(), WANTED) is None


def parting_play(one, other, steps=False):
    """A play with the least cost that shows something else at both hosts; None if they are alike."""
    graph, search = _search_of_both(one, other, steps)
    start = graph.start_of_plays()
    return None if search.least_cost(start, WANTED) is None else route_of(search, start, WANTED)


def _search_of_both(one, other, steps):
    if not can_compare(one, other):
        raise OtherHosts(one, other)
    graph = PairGraph(Plan(one), Plan(other), steps)
    return graph, Search(graph)
