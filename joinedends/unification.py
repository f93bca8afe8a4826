"""Unification: substitutions that turn two terms into the same term."""

from joinedends.errors import TooLarge
from joinedends.nodes import Nodes
from joinedends.terms import is_within, substitute, variables

RAISE = 10


class TermGraph:
    """The distinct subterms of some terms as nodes, put together into classes.

    Terms that must become equal are put into one class. So no pair of subterms is
    compared twice, and no term is built before it is known that it is small.
    """

    def __init__(self):
        self._nodes = Nodes()
        self._leaders = []
        # For the leader of each class an application in the class, or None.
        self._forms = []

    def add_term(self, term):
        """Return the node of the term."""
        node = self._nodes.number(term)
        start = len(self._leaders)
        for new in range(start, self._nodes.total()):
            self._leaders.append(new)
            self._forms.append(None if isinstance(self._nodes.symbol(new), int) else new)
        return node

    def _leader(self, node):
        while self._leaders[node] != node:
            self._leaders[node] = self._leaders[self._leaders[node]]
            node = self._leaders[node]
        return node

    def class_of(self, variable):
        """Return the leader of the class of a variable."""
        return self._leader(self._nodes.node(variable, []))

    def form(self, leader):
        """Return the operation of the applications in the class, or None."""
        node = self._forms[leader]
        return None if node is None else self._nodes.symbol(node)

    def arguments(self, leader):
        """Return the classes of the arguments of the applications in the class."""
        node = self._forms[leader]
        if node is None:
            return []
        return [self._leader(argument) for argument in self._nodes.arguments(node)]

    def merge(self, first, second):
        """Put two nodes into one class, with all that follows. Return False if names clash."""
        waiting = [(first, second)]
        while waiting:
            pair = waiting.pop()
            kept = self._leader(pair[0])
            other = self._leader(pair[1])
            if kept == other:
                continue
            left = self._forms[kept]
            right = self._forms[other]
            self._leaders[other] = kept
            if left is None:
                self._forms[kept] = right
            elif right is not None:
                if self._nodes.symbol(left) != self._nodes.symbol(right):
                    return False
                waiting.extend(list(zip(self._nodes.arguments(left), self._nodes.arguments(right))))
        return True

    def ordered(self, node):
        """Return the classes below a node, arguments first, or None if one lies below itself."""
        found = []
        is_done = {}
        waiting = [(self._leader(node), False)]
        while waiting:
            leader, is_left = waiting.pop()
            if is_left:
                is_done[leader] = True
                found.append(leader)
            elif leader not in is_done:
                is_done[leader] = False
                waiting.append((leader, True))
                waiting.extend([(argument, False) for argument in self.arguments(leader)])
            elif not is_done[leader]:
                return None
        return found


def raised(term):
    """Return the term with each variable raised by 10."""
    renaming = {}
    for variable in variables(term):
        if variable >= RAISE:
            raise TooLarge()
        renaming[variable] = variable + RAISE
    return substitute(term, renaming)


def check_raisable(equation):
    """Raise TooLarge if the equation has a variable that cannot be raised."""
    for side in equation:
        raised(side)


def unify(left, right):
    """Return the solved form of the most general unifiers, or None if there is no unifier."""
    graph = TermGraph()
    first = graph.add_term(left)
    if not graph.merge(first, graph.add_term(right)):
        return None
    order = graph.ordered(first)
    if order is None:
        return None
    least = _least_variables(graph, left, right)
    bound = _bound_variables(graph, left, right, least)
    sizes = _sizes(graph, order)
    for variable in bound:
        total, deepest = sizes[graph.class_of(variable)]
        if not is_within(total, deepest):
            raise TooLarge()
    terms = _built(graph, order, least)
    return {variable: terms[graph.class_of(variable)] for variable in bound}


def _all_variables(left, right):
    return sorted(set(variables(left) + variables(right)))


def _least_variables(graph, left, right):
    """Return a dict from classes to the least variable in them."""
    least = {}
    for variable in _all_variables(left, right):
        least.setdefault(graph.class_of(variable), variable)
    return least


def _bound_variables(graph, left, right, least):
    """Return the list of the keys of the solved form.

    In a class without an application, the least variable stays free.
    """
    bound = []
    for variable in _all_variables(left, right):
        leader = graph.class_of(variable)
        if graph.form(leader) is not None or least[leader] != variable:
            bound.append(variable)
    return bound


def _sizes(graph, order):
    """Return a dict from classes to the size and depth of their terms."""
    sizes = {}
    for leader in order:
        total = 1
        deepest = 0
        for argument in graph.arguments(leader):
            total += sizes[argument][0]
            deepest = max(deepest, sizes[argument][1])
        sizes[leader] = (total, deepest + 1)
    return sizes


def _built(graph, order, least):
    """Return a dict from classes to their terms, in which equal parts are shared."""
    terms = {}
    for leader in order:
        if graph.form(leader) is None:
            terms[leader] = least[leader]
        else:
            parts = [terms[argument] for argument in graph.arguments(leader)]
            terms[leader] = (graph.form(leader), *parts)
    return terms
