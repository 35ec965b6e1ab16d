"""Least costs of ways through a graph whose moves can lead by way of other searches in the same graph.

A graph has these methods. moves(node) tells the list of the moves from a node, tuples (price, act, start, key). If
start is None, the move leads to the node key. Otherwise it first goes from the node start to any end, and for each such
end it leads to the node behind(key, end). is_end(node) tells whether a node is an end. Nodes can be keys of a dict.
"""


class Search:
    """The least costs that are known up to now: from each start that matters to the nodes that can be reached."""

    def __init__(self, graph):
        self._graph = graph
        # For each start the nodes whose least cost is known, with the cost and the last step of a way with this cost.
        self._known = {}
        self._ends = {}
        self._waiting = {}
        # What has been found and not been looked at, by its cost.
        self._found = {}

    def least_cost(self, start, end):
        """The least cost of a way from the start to the end; None if there is no way."""
        self._open_start(start)
        while end not in self._known[start] and len(self._found) > 0:
            # The cheapest ones come next, so that their cost can not become less any more.
            cost = min(self._found, key=int)
            layer = self._found.pop(cost)
            for here, node, step in layer:
                if node not in self._known[here]:
                    self._know(here, node, cost, step)
        return self._known[start][end][0] if end in self._known[start] else None

    def steps_to(self, start, end):
        """The list of the steps of a way with the least cost, if this is known.

        A step is a tuple (node, act, within, last, behind): the move with this act leads from node to behind, perhaps
        by way of the search from the node within to the end last.
        """
        steps = []
        node = end
        while node != start:
            before, act, within, last = self._known[start][node][1]
            steps.append((before, act, within, last, node))
            node = before
        return steps[::-1]

    def _open_start(self, start):
        if start not in self._known:
            self._known[start] = {}
            self._ends[start] = []
            self._waiting[start] = []
            self._find(start, start, 0, None)

    def _find(self, here, node, cost, step):
        if node not in self._known[here]:
            if cost not in self._found:
                self._found[cost] = []
            self._found[cost].append((here, node, step))

    def _know(self, here, node, cost, step):
        self._known[here][node] = (cost, step)
        if self._graph.is_end(node):
            self._ends[here].append((node, cost))
            for waiting in list(self._waiting[here]):
                self._go_on(waiting, node, cost)
            return
        for price, act, start, key in self._graph.moves(node):
            if start is None:
                self._find(here, key, cost + price, (node, act, None, None))
            else:
                self._wait(start, (here, node, cost + price, act, key, start))

    def _wait(self, start, waiting):
        """Waits for each end that is reached from the start; those that have been reached are taken at once."""
        self._open_start(start)
        self._waiting[start].append(waiting)
        for end, cost in list(self._ends[start]):
            self._go_on(waiting, end, cost)

    def _go_on(self, waiting, end, cost):
        here, node, spent, act, key, start = waiting
        self._find(here, self._graph.behind(key, end), spent + cost, (node, act, start, end))
