"""Finding redexes and taking steps, with each distinct subterm looked at once."""

from joinedends.errors import StepLimit, TooLarge
from joinedends.nodes import Nodes
from joinedends.rules import RuleIndex
from joinedends.terms import is_within

OUTER = "outer"


class Reducer:
    """Rewrites terms by a list of rules.

    Terms are held as nodes, and which rules apply at the root of a node is found once. A match
    is a tuple (rule, values), where values is a dict from the variables of the rule to nodes.
    """

    def __init__(self, rules):
        self._index = RuleIndex(rules)
        self._rules = list(rules)
        self._nodes = Nodes()
        self._matches = {}
        self._reducible = {}

    def redexes(self, term):
        """Return the list of all redexes of the term."""
        found = []
        waiting = [((), self._nodes.number(term))]
        while waiting:
            position, node = waiting.pop()
            for rule, values in self._matches_at(node):
                found.append(self._step(rule, position, values))
            arguments = self._nodes.arguments(node)
            for at in range(len(arguments), 0, -1):
                waiting.append((position + (at,), arguments[at - 1]))
        return found

    def first_redex(self, term, strategy):
        """Return the redex that the strategy takes, or None if the term is normal."""
        root = self._nodes.number(term)
        if not self._is_reducible(root):
            return None
        position, node = self._place(root, strategy)
        rule, values = self._matches_at(node)[0]
        return self._step(rule, position, values)

    def is_normal(self, term):
        """Return True if the term has no redex."""
        return not self._is_reducible(self._nodes.number(term))

    def normal_form(self, term, strategy, limit):
        """Return a tuple of the normal form and the list of the steps that lead to it."""
        root = self._nodes.number(term)
        steps = []
        while self._is_reducible(root):
            if len(steps) == limit:
                raise StepLimit()
            position, node = self._place(root, strategy)
            rule, values = self._matches_at(node)[0]
            steps.append(self._step(rule, position, values))
            root = self._replaced(root, position, self._filled(self._rules[rule][1], values))
            total, deepest = self._nodes.measure(root)
            if not is_within(total, deepest):
                raise TooLarge()
        return self._nodes.term(root), steps

    def _step(self, rule, position, values):
        substitution = {variable: self._nodes.term(values[variable]) for variable in values}
        return ("given", rule), True, position, substitution

    def _matches_at(self, node):
        """Return the list of the matches at the root of the node, by ascending rules."""
        if node not in self._matches:
            rows = []
            for rule in self._index.candidates(self._nodes.term(node)):
                values = self._match(self._rules[rule][0], node)
                if values is not None:
                    rows.append((rule, values))
            self._matches[node] = rows
        return self._matches[node]

    def _match(self, pattern, node):
        """Return a dict from variables to nodes, or None, for a pattern that fits loosely."""
        found = {}
        waiting = [(pattern, node)]
        while waiting:
            part, place = waiting.pop()
            if isinstance(part, tuple):
                arguments = self._nodes.arguments(place)
                waiting.extend(list(zip(part[:0:-1], arguments[::-1])))
            elif found.setdefault(part, place) != place:
                return None
        return found

    def _is_reducible(self, node):
        """Return True if some subterm of the node has a redex at its root."""
        if node not in self._reducible:
            result = len(self._matches_at(node)) > 0
            for argument in self._nodes.arguments(node):
                result = result or self._is_reducible(argument)
            self._reducible[node] = result
        return self._reducible[node]

    def _place(self, root, strategy):
        """Return the position and the node at which the strategy takes a redex."""
        position = ()
        node = root
        while strategy != OUTER or not self._matches_at(node):
            at = self._first_reducible(self._nodes.arguments(node))
            if at == 0:
                break
            position += (at,)
            node = self._nodes.arguments(node)[at - 1]
        return position, node

    def _first_reducible(self, nodes):
        """Return the place, counted from 1, of the first of the nodes with a redex, or 0."""
        for at, node in enumerate(nodes, 1):
            if self._is_reducible(node):
                return at
        return 0

    def _filled(self, term, values):
        """Return the node of the term with nodes as the values of its variables."""
        if isinstance(term, int):
            return values[term]
        arguments = []
        for argument in term[1:]:
            arguments.append(self._filled(argument, values))
        return self._nodes.node(term[0], arguments)

    def _replaced(self, root, position, new):
        """Return the node of the root with a new node at the position."""
        spine = [root]
        for at in position:
            spine.append(self._nodes.arguments(spine[-1])[at - 1])
        result = new
        for level in range(len(position) - 1, -1, -1):
            arguments = list(self._nodes.arguments(spine[level]))
            arguments[position[level] - 1] = result
            result = self._nodes.node(self._nodes.symbol(spine[level]), arguments)
        return result
