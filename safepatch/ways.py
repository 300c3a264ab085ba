"""Cheapest ways through a graph, with floors that show that none is cheaper, or with all nodes if there is no way.

A graph is an object with `start`, the node where ways begin; `least_price`, below which no step costs; `steps(node)`,
the list of the steps from an open node, each as a write, its price and the node to which it leads; and
`is_open(node)`, whether ways go on from a node. A node is a state, or a pair of a stage and a state. Whatever a way
ends at is the node END, also if it is the start.
"""

from safepatch.errors import TooLarge

END = "end"
MOST_NODES = 2000


class Search:
    """A search for the cheapest way through a graph, from the least costs upwards and no further than needed."""

    def __init__(self, graph):
        self.graph = graph
        self.costs = {graph.start: 0}
        self.origins = {}
        self.waiting = {0: [graph.start]}
        self.expanded = 0

    def run(self):
        """Go on until the cheapest way is certain, or nothing is left; raise TooLarge where this is certain first."""
        while self.waiting:
            level = min(list(self.waiting))
            # Whatever is not known yet costs at least this, and what is known to cost less is final.
            bound = level + self.graph.least_price
            if self.count_below(bound) > MOST_NODES:
                raise TooLarge("a search leads to too many states")
            ready = self.ready_at(level)
            for node in ready:
                if self.ends_at(bound):
                    return
                self.expand(node, level)
            del self.waiting[level]

    def count_below(self, bound):
        """Return how many nodes are known to cost less than a bound and less than the cheapest way."""
        most = min(bound, self.costs.get(END, bound))
        ahead = [len(self.ready_at(level)) for level in self.waiting if level < most]
        return self.expanded + sum(ahead)

    def ready_at(self, level):
        """Return the list of the nodes that wait at a level of cost, without those that were found at a lower one."""
        return [node for node in self.waiting[level] if self.costs[node] == level]

    def ends_at(self, bound):
        """Return whether a way is known that costs at most this."""
        return END in self.costs and self.costs[END] <= bound

    def expand(self, node, level):
        """Take all steps from a node, whose cost is this level."""
        self.expanded += 1
        for write, price, after in self.graph.steps(node):
            cost = level + price
            if after not in self.costs or cost < self.costs[after]:
                self.costs[after] = cost
                self.origins[after] = (node, write)
                if after != END:
                    self.waiting.setdefault(cost, []).append(after)

    def least_cost(self):
        """Return the cost of the cheapest way, None if there is no way."""
        return self.costs.get(END)

    def way(self):
        """Return the list of the pairs of a node and the write that is done there, on the cheapest way."""
        found = []
        node = END
        while node in self.origins:
            node, write = self.origins[node]
            found.append((node, write))
        return found[::-1]

    def bounds(self):
        """Return the dict from the nodes before the end to what a way from them costs at least."""
        least = self.costs[END]
        return {node: least - self.costs[node] for node in self.costs if self.costs[node] < least}

    def nodes(self):
        """Return the list of all nodes that were found."""
        return list(self.costs)


def search(graph):
    """Return the search through a graph that has come to its end; raise TooLarge as [7], [9] and [10] say."""
    found = Search(graph)
    found.run()
    return found


def are_floors(graph, cost, floors):
    """Return whether floors show that each way through a graph costs at least this."""
    if cost > 0 and floors.get(graph.start, 0) < cost:
        return False
    for node in floors:
        if floors[node] > 0 and not (graph.is_open(node) and holds_floor(graph, floors, node)):
            return False
    return True


def holds_floor(graph, floors, node):
    """Return whether each step from an open node leads to a floor that is high enough for that of the node."""
    for _, price, after in graph.steps(node):
        needed = floors[node] - price
        if needed > 0 and floors.get(after, 0) < needed:
            return False
    return True


def are_closed(graph, nodes):
    """Return whether nodes, that of the start among them, are all open, and steps lead only from one to another."""
    known = {node: True for node in nodes}
    if graph.start not in known:
        return False
    for node in known:
        if not graph.is_open(node) or not all([step[2] in known for step in graph.steps(node)]):
            return False
    return True
