"""The polynomial order: terms are compared by linear polynomials in their variables."""

from joinedends.errors import InvalidOrder
from joinedends.signature import check_names

MAX_ENTRY = 1000
VARIABLES = 20


class PolynomialOrder:
    """The polynomial order for a table with a constant and factors for each operation."""

    def __init__(self, signature, table):
        if not _is_table(signature, table):
            raise InvalidOrder()
        self._table = {name: list(table[name]) for name in table}

    def polynomial(self, term):
        """Return the polynomial of the term: a constant and the coefficients of the variables."""
        check_names(self._table, term)
        # The entries of a subterm are multiplied by all factors above it.
        entries = [0] * (VARIABLES + 1)
        waiting = [(term, 1)]
        while waiting:
            part, factor = waiting.pop()
            if isinstance(part, int):
                entries[part + 1] += factor
            else:
                row = self._table[part[0]]
                entries[0] += factor * row[0]
                for argument, more in zip(part[1:], row[1:]):
                    waiting.append((argument, factor * more))
        return entries

    def greater(self, left, right):
        """Return True if left is greater than right."""
        return self.reason(left, right) is not None

    def reason(self, left, right):
        """Return the reason that left is greater than right, or None if it is not."""
        first = self.polynomial(left)
        second = self.polynomial(right)
        if first[0] <= second[0]:
            return None
        for entry, other in zip(first, second):
            if entry < other:
                return None
        return ("polynomial", tuple(first), tuple(second))

    def accepts(self, left, right, reason):
        """Return True if the value is the reason that left is greater than right."""
        found = self.reason(left, right)
        return found is not None and found == reason


def _is_table(signature, table):
    """Return True if the table has a list within the bounds for each operation."""
    if sorted(table) != sorted(list(signature)):
        return False
    for name in signature:
        row = table[name]
        if len(row) != signature.arity(name) + 1:
            return False
        if min(row) < 0 or max(row) > MAX_ENTRY or 0 in row[1:]:
            return False
    return True
