"""The path order: terms are compared by the precedence of their operations."""

from joinedends.nodes import Nodes
from joinedends.signature import check_names
from joinedends.terms import first_difference, occurs


class PathOrder:
    """The path order for the precedence of a signature."""

    def __init__(self, signature):
        self._ranks = {name: signature.rank(name) for name in signature}

    def greater(self, left, right):
        """Return True if left is greater than right."""
        self._check(left, right)
        nodes = Nodes()
        first = nodes.number(left)
        return PathComparison(self._ranks, nodes).is_greater(first, nodes.number(right))

    def reason(self, left, right):
        """Return the reason that left is greater than right, or None if it is not."""
        self._check(left, right)
        nodes = Nodes()
        first = nodes.number(left)
        second = nodes.number(right)
        comparison = PathComparison(self._ranks, nodes)
        return comparison.reason(first, second) if comparison.is_greater(first, second) else None

    def accepts(self, left, right, reason):
        """Return True if the value is a reason that left is greater than right."""
        self._check(left, right)
        waiting = [(left, right, reason)]
        while waiting:
            first, second, value = waiting.pop()
            claims = self._claims(first, second, value)
            if claims is None:
                return False
            waiting.extend(claims)
        return True

    def _check(self, left, right):
        check_names(self._ranks, left)
        check_names(self._ranks, right)

    def _claims(self, left, right, value):
        """Return the tuples (left, right, reason) that a reason rests on, or None if it is none."""
        if not isinstance(value, tuple) or not isinstance(left, tuple):
            return None
        if value == ("variable",):
            return [] if isinstance(right, int) and occurs(right, left) else None
        if len(value) == 3 and value[0] == "argument":
            return _argument_claims(left, right, value)
        if not isinstance(right, tuple):
            return None
        if len(value) == 2 and value[0] == "name":
            if self._ranks[left[0]] > self._ranks[right[0]]:
                return _later_claims(left, right[1:], value[1])
        if len(value) == 4 and value[0] == "lexical" and left[0] == right[0]:
            return _lexical_claims(left, right, value)
        return None


def _argument_claims(left, right, value):
    _, at, inner = value
    if not isinstance(at, int) or at < 1 or at >= len(left):
        return None
    if inner is None:
        return [] if left[at] == right else None
    return [(left[at], right, inner)]


def _lexical_claims(left, right, value):
    _, at, inner, reasons = value
    if left == right or at != first_difference(left, right):
        return None
    later = _later_claims(left, right[at + 1:], reasons)
    return None if later is None else [(left[at], right[at], inner), *later]


def _later_claims(left, arguments, reasons):
    """Return the claims that left is greater than each of the arguments, or None."""
    if not isinstance(reasons, tuple) or len(reasons) != len(arguments):
        return None
    return [(left, argument, reason) for argument, reason in zip(arguments, reasons)]


class PathComparison:
    """Compares terms that are given as nodes, each pair of subterms once."""

    def __init__(self, ranks, nodes):
        self._ranks = ranks
        self._nodes = nodes
        self._known = {}

    def is_greater(self, left, right):
        """Return True if left is greater than right.

        What is greater than right is also greater than the arguments of right. So if the
        operation of left is greater, or the first arguments that differ are, only right's other
        arguments can stand against it; otherwise only an argument of left can be great enough.
        """
        key = (left, right)
        if left == right or key in self._known:
            return self._known.get(key, False)
        lefts = self._nodes.arguments(left)
        rights = self._nodes.arguments(right)
        at = self._difference(left, right)
        if at > 0:
            is_ahead = self.is_greater(lefts[at - 1], rights[at - 1])
        else:
            is_ahead = self._is_higher(left, right)
        result = is_ahead
        if is_ahead:
            for argument in rights[at:]:
                result = result and self.is_greater(left, argument)
        else:
            for argument in lefts[at:]:
                result = result or argument == right or self.is_greater(argument, right)
        self._known[key] = result
        return result

    def reason(self, left, right):
        """Return the reason that left is greater than right, for nodes of which this is true."""
        if isinstance(self._nodes.symbol(right), int):
            return ("variable",)
        for at, argument in enumerate(self._nodes.arguments(left), 1):
            if argument == right:
                return ("argument", at, None)
            if self.is_greater(argument, right):
                return ("argument", at, self.reason(argument, right))
        at = self._difference(left, right)
        reasons = []
        for argument in self._nodes.arguments(right)[at:]:
            reasons.append(self.reason(left, argument))
        if at == 0:
            return ("name", tuple(reasons))
        inner = self.reason(self._nodes.arguments(left)[at - 1], self._nodes.arguments(right)[at - 1])
        return ("lexical", at, inner, tuple(reasons))

    def _is_higher(self, left, right):
        """Return True if both are applications and the operation of left is greater."""
        names = (self._nodes.symbol(left), self._nodes.symbol(right))
        if isinstance(names[0], int) or isinstance(names[1], int):
            return False
        return self._ranks[names[0]] > self._ranks[names[1]]

    def _difference(self, left, right):
        """Return the first argument, counted from 1, at which two different applications of the
        same operation differ, or 0 if there is none.
        """
        if self._nodes.symbol(left) == self._nodes.symbol(right):
            for at, argument in enumerate(self._nodes.arguments(left)):
                if argument != self._nodes.arguments(right)[at]:
                    return at + 1
        return 0
