"""Facts: stages that are derived one from the other, and rules that are equations of facts."""

from joinedends.chains import instantiated
from joinedends.reducing import OUTER, Reducer
from joinedends.rewriting import JOIN_LIMIT
from joinedends.terms import canonical_renaming, substitute, variables


def trimmed(stages, last):
    """Return the derivation of the last stage from those of the stages that it needs.

    stages maps numbers to stages that name stages with lesser numbers only. The derivation
    shares no list and no dict with them.
    """
    needed = {}
    waiting = [last]
    while waiting:
        stage = waiting.pop()
        for step in stage[2]:
            kind, number = step[0]
            if kind == "stage" and number not in needed:
                needed[number] = True
                waiting.append(stages[number])
    order = sorted(needed)
    indexes = {number: index for index, number in enumerate(order)}
    rows = [stages[number] for number in order] + [last]
    return [(left, right, _renumbered(steps, indexes)) for left, right, steps in rows]


def _renumbered(steps, indexes):
    """Return new steps in which each stage has its index in place of its number."""
    found = []
    for source, is_forward, position, substitution in steps:
        kind, number = source
        index = indexes[number] if kind == "stage" else number
        found.append(((kind, index), is_forward, position, dict(substitution)))
    return found


class Facts:
    """A list of stages with equations in canonical form. Each names only stages before it."""

    def __init__(self):
        self._stages = []

    def add(self, left, right, steps):
        """Add the canonical form of the stage and return its number."""
        renaming = canonical_renaming(left, right)
        ends = [substitute(side, renaming) for side in (left, right)]
        self._stages.append((ends[0], ends[1], instantiated(steps, renaming)))
        return len(self._stages) - 1

    def equation(self, number):
        """Return the equation of the fact."""
        return self._stages[number][:2]

    def step(self, number):
        """Return the step by the fact that leads from its left to its right term."""
        left, right = self.equation(number)
        names = variables(left) + variables(right)
        return ("stage", number), True, (), {name: name for name in names}

    def derivation(self, left, right, steps):
        """Return a derivation that ends with the stage of these steps by facts."""
        return trimmed(self._stages, (left, right, steps))

    def derivation_of(self, number):
        """Return a derivation of the equation of the fact."""
        return trimmed(self._stages, self._stages[number])


class FactRules:
    """A list of rules that are equations of facts, in an order of their own."""

    def __init__(self, facts, numbers):
        self._facts = facts
        self._numbers = list(numbers)
        # Made when it is needed, because rules are often changed several times in between.
        self._reducer = None

    def total(self):
        """Return the number of rules."""
        return len(self._numbers)

    def number(self, at):
        """Return the number of the fact of a rule."""
        return self._numbers[at]

    def equations(self):
        """Return the list of the rules."""
        return [self._facts.equation(number) for number in self._numbers]

    def put(self, number):
        """Add the equation of a fact as the last rule."""
        self._numbers.append(number)
        self._reducer = None

    def exchange(self, at, number):
        """Put the equation of another fact into the place of a rule."""
        self._numbers[at] = number
        self._reducer = None

    def take(self, at):
        """Remove a rule and return the number of its fact."""
        self._reducer = None
        return self._numbers.pop(at)

    def normal_form(self, term):
        """Return a tuple of the normal form and the list of the steps by facts that lead to it."""
        if self._reducer is None:
            self._reducer = Reducer(self.equations())
        end, steps = self._reducer.normal_form(term, OUTER, JOIN_LIMIT)
        return end, self.named(steps)

    def named(self, steps):
        """Return the steps by rules as steps by the facts of these rules."""
        return [(("stage", self._numbers[source[1]]), is_forward, position, substitution)
                for source, is_forward, position, substitution in steps]
