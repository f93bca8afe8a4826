"""Rules, and an index of the rules whose left sides fit a term."""

from joinedends.errors import InvalidRule
from joinedends.terms import symbols, variables


def is_rule(left, right):
    """Return True if the equation is a rule."""
    if isinstance(left, int):
        return False
    names = variables(left)
    return all([variable in names for variable in variables(right)])


def check_rules(rules):
    """Raise InvalidRule for the first equation of the list that is no rule."""
    for number, (left, right) in enumerate(rules):
        if not is_rule(left, right):
            raise InvalidRule(number)


class RuleIndex:
    """An index of a list of rules by the open forms of their left sides.

    The open forms are stored as one tree. Each branch stands for the beginning of an open form,
    and has a dict from the next entries to the branches behind them.
    """

    def __init__(self, rules):
        check_rules(rules)
        self._branches = [{}]
        # For each branch the rules whose open form ends there.
        self._ends = [[]]
        for number, (left, _) in enumerate(rules):
            self._ends[self._branch(left)].append(number)

    def candidates(self, term):
        """Return the ascending list of the rules whose left sides fit the term loosely."""
        found = []
        # What is still to be read of the term is a chain of pairs (subterm, rest), so that
        # different branches can share it.
        waiting = [(0, (term, None))]
        while waiting:
            branch, chain = waiting.pop()
            if chain is None:
                found.extend(self._ends[branch])
                continue
            part, rest = chain
            following = self._branches[branch]
            if None in following:
                waiting.append((following[None], rest))
            if isinstance(part, tuple) and part[0] in following:
                for argument in part[:0:-1]:
                    rest = (argument, rest)
                waiting.append((following[part[0]], rest))
        return sorted(found)

    def _branch(self, left):
        """Return the branch at the end of the open form, made where it is missing."""
        branch = 0
        for symbol in symbols(left):
            entry = None if isinstance(symbol, int) else symbol
            if entry not in self._branches[branch]:
                self._branches[branch][entry] = len(self._branches)
                self._branches.append({})
                self._ends.append([])
            branch = self._branches[branch][entry]
        return branch
