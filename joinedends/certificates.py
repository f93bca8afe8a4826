"""Certificates of complete systems of rules."""

from joinedends.chains import is_derivation
from joinedends.errors import BadStep, HallError
from joinedends.orders import make_order
from joinedends.overlaps import overlaps, overlaps_into
from joinedends.pathorder import PathOrder
from joinedends.reducing import OUTER, Reducer
from joinedends.rewriting import JOIN_LIMIT
from joinedends.rules import is_rule
from joinedends.terms import variables
from joinedends.unification import RAISE
from joinedends.walks import Walk

COMPLETE = "complete"


def common_end(rules, left, right, entry):
    """Return the term to which both lists of steps of the entry lead, or None."""
    left_steps, right_steps = entry
    end = _end(rules, left, left_steps)
    return end if end == _end(rules, right, right_steps) else None


def make_certificate(signature, given, completion):
    """Return the certificate of a complete completion with the path order, or None."""
    if completion.status() != COMPLETE:
        return None
    rules = completion.rules()
    order = PathOrder(signature)
    reasons = [order.reason(left, right) for left, right in rules]
    stages = [completion.derivation(k) for k in range(len(rules))]
    reducer = Reducer(rules)
    try:
        joins = [_entry(reducer, row[4], row[5]) for row in overlaps(rules)]
        covers = [_entry(reducer, left, right) for left, right in given]
    except HallError:
        return None
    return rules, ("path",), reasons, joins, stages, covers


def accepts(signature, given, certificate):
    """Return True if the certificate is accepted for the signature and the given equations."""
    rules, description, reasons, joins, stages, covers = certificate
    if len(reasons) != len(rules) or len(stages) != len(rules):
        return False
    try:
        return (_are_rules(signature, rules) and _are_ordered(signature, rules, description, reasons)
                and _are_derived(given, rules, stages) and _are_joined(rules, given, covers)
                and _do_overlaps_join(rules, joins))
    except HallError:
        return False


def _end(rules, term, steps):
    """Return the term to which the steps lead, or None if they are not of the form of an entry."""
    if not all([is_forward for _, is_forward, _, _ in steps]):
        return None
    try:
        # There are no stages, so no step by a stage applies.
        return Walk(rules, []).follow(term, steps, 0)[-1]
    except BadStep:
        return None


def _entry(reducer, left, right):
    """Return the steps to the normal forms of both terms."""
    return (reducer.normal_form(left, OUTER, JOIN_LIMIT)[1], reducer.normal_form(right, OUTER, JOIN_LIMIT)[1])


def _are_rules(signature, rules):
    for left, right in rules:
        signature.check(left)
        signature.check(right)
        if not is_rule(left, right) or max(variables(left), default=0) >= RAISE:
            return False
    return True


def _are_ordered(signature, rules, description, reasons):
    order = make_order(signature, description)
    return all([order.accepts(left, right, reason) for (left, right), reason in zip(rules, reasons)])


def _are_derived(given, rules, stages):
    return all([is_derivation(given, left, right, rows) for (left, right), rows in zip(rules, stages)])


def _are_joined(rules, equations, entries):
    """Return True if each equation has an entry that leads from its sides to one term."""
    if len(equations) != len(entries):
        return False
    return all([common_end(rules, left, right, entry) is not None
                for (left, right), entry in zip(equations, entries)])


def _do_overlaps_join(rules, joins):
    """Return True if the entries are those of the overlaps of the rules, in their order."""
    done = 0
    for outer in range(len(rules)):
        sides = [(row[4], row[5]) for row in overlaps_into(rules, outer)]
        if not _are_joined(rules, sides, joins[done:done + len(sides)]):
            return False
        done += len(sides)
    return done == len(joins)
