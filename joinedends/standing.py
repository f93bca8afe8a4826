"""Numbered equations of a theory."""

from joinedends.errors import NotFound
from joinedends.unification import check_raisable


def check_equation(signature, left, right):
    """Raise an error if the equation cannot be a given one."""
    signature.check(left)
    signature.check(right)
    check_raisable((left, right))


class Standing:
    """The standing equations of one theory by their numbers, of which none is given twice."""

    def __init__(self):
        self._equations = {}
        self._next = 0

    def put(self, left, right):
        """Add the equation and return its number."""
        number = self._next
        self._equations[number] = (left, right)
        self._next += 1
        return number

    def drop(self, number):
        """Remove an equation and return it."""
        equation = self.equation(number)
        del self._equations[number]
        return equation

    def equation(self, number):
        """Return the equation with this number."""
        if number not in self._equations:
            raise NotFound()
        return self._equations[number]

    def numbers(self):
        """Return the ascending list of the numbers of the standing equations."""
        return list(self._equations)

    def next_number(self):
        """Return the number that the next equation gets."""
        return self._next

    def go_on(self, number):
        """Let the next equation get this number, which is not less than the one it would get."""
        self._next = number
