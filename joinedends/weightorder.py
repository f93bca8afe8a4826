"""The weight order: terms are compared by the sums of the weights of their symbols."""

from joinedends.errors import InvalidOrder
from joinedends.measures import profile
from joinedends.signature import check_names
from joinedends.terms import first_difference, symbols

MAX_WEIGHT = 1000


class WeightOrder:
    """The weight order for a weight of each operation and one of all variables."""

    def __init__(self, signature, weights, variable_weight):
        if not _are_weights(signature, weights, variable_weight):
            raise InvalidOrder()
        self._weights = dict(weights)
        self._variable_weight = variable_weight
        self._ranks = {name: signature.rank(name) for name in signature}

    def weight(self, term):
        """Return the weight of the term."""
        check_names(self._weights, term)
        return self._sum(term)

    def greater(self, left, right):
        """Return True if left is greater than right."""
        return self.reason(left, right) is not None

    def reason(self, left, right):
        """Return the reason that left is greater than right, or None if it is not."""
        check_names(self._weights, left)
        check_names(self._weights, right)
        places = []
        case = self._case(left, right)
        while case == "lexical":
            at = first_difference(left, right)
            places.append(at)
            left = left[at]
            right = right[at]
            case = self._case(left, right)
        if case is None:
            return None
        found = (case,)
        for at in places[::-1]:
            found = ("lexical", at, found)
        return found

    def accepts(self, left, right, reason):
        """Return True if the value is the reason that left is greater than right."""
        found = self.reason(left, right)
        return found is not None and found == reason

    def _sum(self, term):
        total = 0
        for symbol in symbols(term):
            total += self._variable_weight if isinstance(symbol, int) else self._weights[symbol]
        return total

    def _case(self, left, right):
        """Return the case that applies, or None if left is not greater.

        For "lexical", the arguments at the first difference are still to be compared.
        """
        if left == right or not _has_as_many_variables(left, right):
            return None
        more = self._sum(left) - self._sum(right)
        if more > 0:
            return "weight"
        if more < 0 or isinstance(left, int):
            return None
        if isinstance(right, int):
            # The variable occurs in left. Every other leaf and every other operation than the
            # weightless one of arity 1 would make left heavier than it.
            return "power"
        if left[0] == right[0]:
            return "lexical"
        return "name" if self._ranks[left[0]] > self._ranks[right[0]] else None


def _are_weights(signature, weights, variable_weight):
    """Return True if the weights fulfil all conditions for the signature."""
    if sorted(weights) != sorted(list(signature)):
        return False
    if variable_weight < 1 or variable_weight > MAX_WEIGHT:
        return False
    for name in signature:
        least = 0
        if signature.arity(name) == 0:
            least = variable_weight
        elif signature.arity(name) == 1 and signature.rank(name) < len(signature) - 1:
            least = 1
        if weights[name] < least or weights[name] > MAX_WEIGHT:
            return False
    return True


def _has_as_many_variables(left, right):
    """Return True if every variable occurs in left at least as often as in right."""
    counts = profile(left)[2]
    for variable, (count, _) in profile(right)[2].items():
        if counts.get(variable, (0, 0))[0] < count:
            return False
    return True
