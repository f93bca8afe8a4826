"""Rewriting terms by rules: redexes, normal forms and joins."""

from joinedends.reducing import OUTER, Reducer

JOIN_LIMIT = 1000


def redexes(rules, term):
    """Return the list of the redexes of the term, by positions and then by rules."""
    return Reducer(rules).redexes(term)


def first_redex(rules, term, strategy):
    """Return the redex that the strategy takes, or None if the term is normal."""
    return Reducer(rules).first_redex(term, strategy)


def is_normal(rules, term):
    """Return True if the term has no redex."""
    return first_redex(rules, term, OUTER) is None


def normal_form(rules, term, *, strategy="outer", limit=1000):
    """Return a tuple of the normal form and the list of the steps that lead to it."""
    return Reducer(rules).normal_form(term, strategy, limit)


def join(rules, left, right):
    """Return (term, left_steps, right_steps) for the common normal form, or None."""
    reducer = Reducer(rules)
    term, left_steps = reducer.normal_form(left, OUTER, JOIN_LIMIT)
    other, right_steps = reducer.normal_form(right, OUTER, JOIN_LIMIT)
    return (term, left_steps, right_steps) if term == other else None
