"""Ground equations: what follows from them is always decided."""

from joinedends.congruence import Congruence
from joinedends.errors import NotFound
from joinedends.facts import trimmed
from joinedends.nodes import Nodes
from joinedends.terms import order_key


class Closure:
    """The subterms of ground equations and of further ground terms, in classes of equal ones."""

    def __init__(self, equations, terms):
        self._nodes = Nodes()
        pairs = [(self._nodes.number(left), self._nodes.number(right)) for left, right in equations]
        for term in terms:
            self._nodes.number(term)
        self._congruence = Congruence(self._nodes)
        for index, (first, second) in enumerate(pairs):
            self._congruence.unite(first, second, index)
        rows = [(order_key(self._nodes.term(node)), node) for node in range(self._nodes.total())]
        # The nodes of the members in the order of the members.
        self._order = [node for _, node in sorted(rows)]
        # The number of the class for each leader.
        self._numbers = {}
        for node in self._order:
            self._numbers.setdefault(self._congruence.leader(node), len(self._numbers))

    def members(self):
        """Return the ascending list of the members."""
        return [self._nodes.term(node) for node in self._order]

    def classes(self):
        """Return the list of the classes, each an ascending list of members."""
        found = [[] for _ in self._numbers]
        for node in self._order:
            found[self._class_of(node)].append(self._nodes.term(node))
        return found

    def same(self, left, right):
        """Return True if two members are in the same class."""
        first = self._member(left)
        return self._class_of(first) == self._class_of(self._member(right))

    def derivation(self, left, right):
        """Return a derivation of (left, right) from the given equations, or None."""
        first = self._member(left)
        second = self._member(right)
        if self._class_of(first) != self._class_of(second):
            return None
        last = (left, right, self._steps(first, second, ()))
        stages = {}
        waiting = [last]
        while waiting:
            stage = waiting.pop()
            for step in stage[2]:
                kind, number = step[0]
                if kind == "stage" and number not in stages:
                    stages[number] = self._stage(number)
                    waiting.append(stages[number])
        return trimmed(stages, last)

    def model(self, signature):
        """Return the model with one element for each class."""
        tables = {name: {} for name in signature}
        for node in self._order:
            result = self._class_of(node)
            if result > 0:
                key = [self._class_of(argument) for argument in self._nodes.arguments(node)]
                tables[self._nodes.symbol(node)][tuple(key)] = result
        return max(1, len(self._numbers)), tables

    def _member(self, term):
        node = self._nodes.find(term)
        if node is None:
            raise NotFound()
        return node

    def _class_of(self, node):
        return self._numbers[self._congruence.leader(node)]

    def _stage(self, number):
        """Return the stage for an edge between two applications with equal arguments."""
        first, second, _ = self._congruence.edge(number)
        steps = []
        rights = self._nodes.arguments(second)
        for at, argument in enumerate(self._nodes.arguments(first)):
            steps.extend(self._steps(argument, rights[at], (at + 1,)))
        return self._nodes.term(first), self._nodes.term(second), steps

    def _steps(self, first, second, position):
        """Return the steps from one member to another at a position. Edges are named as stages."""
        found = []
        for number, node in self._congruence.path(first, second):
            one, _, given = self._congruence.edge(number)
            source = ("stage", number) if given is None else ("given", given)
            found.append((source, node == one, position, {}))
        return found
