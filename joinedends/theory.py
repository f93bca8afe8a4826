"""Theories: numbered equations, and questions about what follows from them."""

from joinedends.kept import KeptAnswers
from joinedends.standing import Standing, check_equation


class Theory:
    """A theory over a signature, with its standing equations and its kept answers."""

    def __init__(self, signature):
        self._signature = signature.copy()
        self._standing = Standing()
        self._answers = KeptAnswers()

    def add(self, left, right):
        """Add the equation and return its number."""
        check_equation(self._signature, left, right)
        self._answers.forget_added(left, right)
        return self._standing.put(left, right)

    def drop(self, number):
        """Drop the equation with this number and return it."""
        equation = self._standing.drop(number)
        self._answers.forget_dropped(number)
        return equation

    def given(self):
        """Return the list of the standing equations, by ascending numbers."""
        return [self._standing.equation(number) for number in self.sources()]

    def sources(self):
        """Return the ascending list of the numbers of the standing equations."""
        return self._standing.numbers()

    def equation(self, number):
        """Return the standing equation with this number."""
        return self._standing.equation(number)

    def ask(self, left, right, *, steps=30, max_size=2, max_models=500):
        """Return the kept answer to the question, or answer it within the limits."""
        check_equation(self._signature, left, right)
        equations = {number: self._standing.equation(number) for number in self.sources()}
        return self._answers.ask(self._signature, equations, (left, right), (steps, max_size, max_models))

    def kept(self):
        """Return the list of the questions whose answers are kept."""
        return self._answers.questions()

    def rests_on(self, left, right):
        """Return the ascending list of the numbers on which the kept answer rests."""
        return self._answers.rests_on(left, right)
