"""Completion: equations are turned into rules with the help of an order."""

from heapq import heappop, heappush

from joinedends.chains import reverse
from joinedends.errors import NotFound, StepLimit, TooLarge
from joinedends.facts import FactRules, Facts
from joinedends.overlaps import overlap_on, places
from joinedends.reducing import Reducer
from joinedends.terms import order_key, variables

RUNNING = "running"
COMPLETE = "complete"
STUCK = "stuck"
MAX_VARIABLES = 10


class Completion:
    """Facts that follow from given equations, some of them in use as rules."""

    def __init__(self, order, equations):
        self._order = order
        self._given = list(equations)
        self._facts = Facts()
        self._system = FactRules(self._facts, [])
        # A heap of tuples that end with the number of a fact, the next one first.
        self._queue = []
        self._put_aside = []
        self._losses = 0
        self._state = RUNNING
        for index, (left, right) in enumerate(self._given):
            names = variables(left) + variables(right)
            step = (("given", index), True, (), {name: name for name in names})
            self._wait(self._facts.add(left, right, [step]))

    def step(self):
        """Do one step and return the status after it."""
        if self._state == RUNNING:
            if self._queue:
                self._take_next()
            else:
                self._check()
        return self._state

    def run(self, limit):
        """Do steps until the status is decided, but at most limit steps. Return the status."""
        for _ in range(limit):
            if self._state != RUNNING:
                break
            self.step()
        return self._state

    def status(self):
        """Return "running", "complete" or "stuck"."""
        return self._state

    def rules(self):
        """Return the list of the rules, in their order."""
        return self._system.equations()

    def waiting(self):
        """Return the list of the equations that wait, the next one first."""
        return [self._facts.equation(entry[-1]) for entry in sorted(self._queue)]

    def aside(self):
        """Return the list of the equations that are set aside."""
        return [self._facts.equation(fact) for fact in self._put_aside]

    def lost(self):
        """Return how often an overlap was lost."""
        return self._losses

    def derivation(self, k):
        """Return a derivation of rule k from the given equations."""
        if k < 0 or k >= self._system.total():
            raise NotFound()
        return self._facts.derivation_of(self._system.number(k))

    def derive(self, left, right):
        """Return a derivation of the equation from the given ones if its terms join, or None."""
        end, left_steps = self._system.normal_form(left)
        other, right_steps = self._system.normal_form(right)
        if end != other:
            return None
        return self._facts.derivation(left, right, left_steps + reverse(right_steps))

    def _wait(self, fact):
        left, right = self._facts.equation(fact)
        keys = (order_key(left), order_key(right))
        heappush(self._queue, (keys[0][0] + keys[1][0], keys[0], keys[1], fact))

    def _ends(self, left, right):
        """Return (normal form, steps) of both terms, or None if there is an error."""
        try:
            return self._system.normal_form(left), self._system.normal_form(right)
        except (StepLimit, TooLarge):
            return None

    def _take_next(self):
        """Take the next fact and make a rule of it, if possible."""
        fact = heappop(self._queue)[-1]
        left, right = self._facts.equation(fact)
        ends = self._ends(left, right)
        if ends is None:
            self._put_aside.append(fact)
            return
        (left, left_steps), (right, right_steps) = ends
        if left == right:
            return
        steps = reverse(left_steps) + [self._facts.step(fact)] + right_steps
        if self._order.greater(left, right):
            self._add_rule(self._facts.add(left, right, steps))
        elif self._order.greater(right, left):
            self._add_rule(self._facts.add(right, left, reverse(steps)))
        else:
            self._put_aside.append(self._facts.add(left, right, steps))

    def _add_rule(self, fact):
        """Add the equation of the fact to the rules, simplify them and add the overlaps."""
        alone = Reducer([self._facts.equation(fact)])
        self._system.put(fact)
        at = 0
        while at < self._system.total() - 1:
            left, _ = self._facts.equation(self._system.number(at))
            if alone.is_normal(left):
                self._simplify(at)
                at += 1
            else:
                self._wait(self._system.take(at))
        rules = self.rules()
        for other in range(at):
            self._add_overlaps(rules, other, at)
            self._add_overlaps(rules, at, other)
        self._add_overlaps(rules, at, at)

    def _simplify(self, at):
        """Put the normal form of its right side into a rule, if it can be computed."""
        fact = self._system.number(at)
        left, right = self._facts.equation(fact)
        try:
            end, steps = self._system.normal_form(right)
        except (StepLimit, TooLarge):
            return
        if end != right:
            self._system.exchange(at, self._facts.add(left, end, [self._facts.step(fact), *steps]))

    def _add_overlaps(self, rules, outer, inner):
        """Add a fact for each overlap of rule inner into rule outer that is not trivial."""
        for overlap in self._overlaps(rules, outer, inner):
            if overlap[1] != overlap[2]:
                self._add_overlap(overlap)

    def _overlaps(self, rules, outer, inner):
        """Return the list of the overlaps of rule inner into rule outer, without the lost ones."""
        found = []
        spots = places(rules[outer][0])
        for position, part in spots.get(rules[inner][0][0], []):
            try:
                overlap = overlap_on(rules, outer, inner, position, part)
            except TooLarge:
                self._losses += 1
            else:
                if overlap is not None:
                    found.append(overlap)
        return found

    def _add_overlap(self, overlap):
        """Add a waiting fact for the overlap, or lose it."""
        _, left, right, steps = overlap
        if len(set(variables(left) + variables(right))) > MAX_VARIABLES:
            self._losses += 1
        else:
            self._wait(self._facts.add(left, right, self._system.named(steps)))

    def _check(self):
        """Look whether the rules are complete, when no fact waits."""
        still = []
        for fact in list(self._put_aside):
            if self._is_movable(fact):
                self._wait(fact)
            else:
                still.append(fact)
        self._put_aside = still
        if self._queue:
            return
        if still or self._losses > 0:
            self._state = STUCK
            return
        self._check_overlaps()
        self._check_given()
        if not self._queue:
            self._state = STUCK if self._losses > 0 else COMPLETE

    def _is_movable(self, fact):
        """Return True if the normal forms of the fact are computed and one of them is another term."""
        left, right = self._facts.equation(fact)
        ends = self._ends(left, right)
        return ends is not None and (ends[0][0] != left or ends[1][0] != right)

    def _check_overlaps(self):
        rules = self.rules()
        for outer in range(len(rules)):
            for inner in range(len(rules)):
                for overlap in self._overlaps(rules, outer, inner):
                    ends = self._ends(overlap[1], overlap[2])
                    if ends is None:
                        self._losses += 1
                    elif ends[0][0] != ends[1][0]:
                        self._add_overlap(overlap)

    def _check_given(self):
        for fact in range(len(self._given)):
            left, right = self._facts.equation(fact)
            ends = self._ends(left, right)
            if ends is None:
                self._losses += 1
            elif ends[0][0] != ends[1][0]:
                self._wait(fact)
