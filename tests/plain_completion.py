"""Completion by the words of points 40 to 44 alone, without steps, to compare with."""

from helpers import all_positions
from joinedends.errors import HallError
from joinedends.overlaps import overlap_at
from joinedends.rewriting import first_redex, normal_form
from joinedends.terms import canonical, compare_terms, size, variables


class PlainCompletion:
    def __init__(self, order, equations):
        self.order = order
        self.facts = [canonical(*equation) for equation in equations]
        self.given = len(self.facts)
        self.waiting = list(range(self.given))
        self.rules = []
        self.aside = []
        self.lost = 0
        self.status = "running"

    def before(self, one, other):
        """Whether the fact is taken before the other one."""
        first, second = self.facts[one], self.facts[other]
        sums = [sum(size(side) for side in equation) for equation in (first, second)]
        if sums[0] != sums[1]:
            return sums[0] < sums[1]
        for at in (0, 1):
            compared = compare_terms(first[at], second[at])
            if compared != 0:
                return compared < 0
        return one < other

    def in_order(self):
        found = []
        for fact in self.waiting:
            at = 0
            while at < len(found) and self.before(found[at], fact):
                at += 1
            found.insert(at, fact)
        return found

    def equations(self, facts):
        return [self.facts[fact] for fact in facts]

    def add(self, left, right):
        self.facts.append(canonical(left, right))
        return len(self.facts) - 1

    def ends(self, fact):
        rules = self.equations(self.rules)
        try:
            return [normal_form(rules, side)[0] for side in self.facts[fact]]
        except HallError:
            return None

    def step(self):
        if self.status == "running":
            if self.waiting:
                self.take()
            else:
                self.check()
        return self.status

    def take(self):
        fact = self.in_order()[0]
        self.waiting.remove(fact)
        ends = self.ends(fact)
        if ends is None:
            self.aside.append(fact)
        elif ends[0] != ends[1]:
            if self.order.greater(*ends):
                self.add_rule(self.add(*ends))
            elif self.order.greater(*ends[::-1]):
                self.add_rule(self.add(*ends[::-1]))
            else:
                self.aside.append(self.add(*ends))

    def add_rule(self, new):
        before, after = list(self.rules), []
        while before:
            fact = before[0]
            left, right = self.facts[fact]
            if first_redex([self.facts[new]], left, "outer") is not None:
                self.waiting.append(fact)
            else:
                try:
                    end = normal_form(self.equations(after + before + [new]), right)[0]
                except HallError:
                    end = right
                after.append(fact if end == right else self.add(left, end))
            del before[0]
        self.rules = after + [new]
        last = len(self.rules) - 1
        for at in range(last):
            self.add_overlaps(at, last)
            self.add_overlaps(last, at)
        self.add_overlaps(last, last)

    def overlaps(self, outer, inner):
        rules = self.equations(self.rules)
        for position in all_positions(rules[outer][0]):
            try:
                found = overlap_at(rules, outer, inner, position)
            except HallError:
                self.lost += 1
                continue
            if found is not None:
                yield found[1], found[2]

    def add_overlap(self, left, right):
        if len(set(variables(left)) | set(variables(right))) > 10:
            self.lost += 1
        else:
            self.waiting.append(self.add(left, right))

    def add_overlaps(self, outer, inner):
        for left, right in self.overlaps(outer, inner):
            if left != right:
                self.add_overlap(left, right)

    def check(self):
        for fact in list(self.aside):
            ends = self.ends(fact)
            if ends is not None and tuple(ends) != self.facts[fact]:
                self.aside.remove(fact)
                self.waiting.append(fact)
        if self.waiting:
            return
        if self.aside or self.lost:
            self.status = "stuck"
            return
        rules = self.equations(self.rules)
        for outer in range(len(rules)):
            for inner in range(len(rules)):
                for left, right in self.overlaps(outer, inner):
                    try:
                        if normal_form(rules, left)[0] != normal_form(rules, right)[0]:
                            self.add_overlap(left, right)
                    except HallError:
                        self.lost += 1
        for fact in range(self.given):
            ends = self.ends(fact)
            if ends is None:
                self.lost += 1
            elif ends[0] != ends[1]:
                self.waiting.append(fact)
        if not self.waiting:
            self.status = "stuck" if self.lost else "complete"
