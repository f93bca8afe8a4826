"""Classes of ground terms that are equal by given equations, and why they are.

Each time when two classes are put together, an edge between a member of one and a member of
the other is added. So the members of one class are joined by edges that make up a tree, and the path
between two members stays the same when further edges are added.
"""


class Congruence:
    """Classes of the nodes of a store of terms, which gets no further nodes."""

    def __init__(self, nodes):
        self._nodes = nodes
        count = nodes.total()
        self._leaders = list(range(count))
        self._sizes = [1] * count
        # For each leader the applications that have an argument in its class.
        self._users = [[] for _ in range(count)]
        self._known = {}
        # For each node the next node on its way to the root of its tree, and the edge to it.
        self._ups = [None] * count
        self._edges = []
        for node in range(count):
            for argument in nodes.arguments(node):
                self._users[argument].append(node)
            self._known[self._key(node)] = node

    def leader(self, node):
        """Return the node that stands for the class of the node."""
        while self._leaders[node] != node:
            self._leaders[node] = self._leaders[self._leaders[node]]
            node = self._leaders[node]
        return node

    def unite(self, first, second, given):
        """Put two nodes into one class because of a given equation, with all that follows."""
        waiting = [(first, second, given)]
        at = 0
        while at < len(waiting):
            one, other, why = waiting[at]
            at += 1
            if self.leader(one) == self.leader(other):
                continue
            self._edges.append((one, other, why))
            if self._sizes[self.leader(one)] > self._sizes[self.leader(other)]:
                one, other = other, one
            self._connect(one, other)
            waiting.extend(self._absorb(self.leader(one), self.leader(other)))

    def edge(self, number):
        """Return (node, other node, index of a given equation or None) for an edge."""
        return self._edges[number]

    def path(self, first, second):
        """Return the edges from one node of a class to another, as tuples (number, from node)."""
        heights = {first: 0}
        rising = []
        node = first
        while self._ups[node] is not None:
            above, edge = self._ups[node]
            rising.append((edge, node))
            heights[above] = len(rising)
            node = above
        falling = []
        node = second
        while node not in heights:
            above, edge = self._ups[node]
            falling.append((edge, above))
            node = above
        return rising[:heights[node]] + falling[::-1]

    def _key(self, node):
        leaders = [self.leader(argument) for argument in self._nodes.arguments(node)]
        return (self._nodes.symbol(node), *leaders)

    def _connect(self, one, other):
        """Let the tree of the first node hang from the other one by the last edge."""
        chain = [one]
        edges = [len(self._edges) - 1]
        while self._ups[chain[-1]] is not None:
            above, edge = self._ups[chain[-1]]
            chain.append(above)
            edges.append(edge)
        below = other
        for node, edge in zip(chain, edges):
            self._ups[node] = (below, edge)
            below = node

    def _absorb(self, leader, kept):
        """Put the class of a leader into another class. Return the pairs of applications that
        became equal, as tuples (node, other node, None).
        """
        self._leaders[leader] = kept
        self._sizes[kept] += self._sizes[leader]
        found = []
        for user in self._users[leader]:
            key = self._key(user)
            if key in self._known:
                found.append((user, self._known[key], None))
            else:
                self._known[key] = user
        self._users[kept].extend(list(self._users[leader]))
        return found
