"""Overlaps of rules: terms that two rules rewrite in two ways."""

from joinedends.errors import NoPosition, TooLarge
from joinedends.measures import filled, profile
from joinedends.rules import check_rules
from joinedends.terms import is_within, positions, replace, substitute, subterm, variables
from joinedends.unification import RAISE, check_raisable, raised, unify


def overlap_at(rules, outer, inner, position):
    """Return the overlap (peak, left, right, steps) of rule inner into rule outer, or None."""
    check_raisable(rules[outer])
    check_raisable(rules[inner])
    try:
        part = subterm(rules[outer][0], position)
    except NoPosition:
        return None
    return overlap_on(rules, outer, inner, position, part)


def overlaps(rules):
    """Return the list of all overlaps as tuples (outer, inner, position, peak, left, right, steps)."""
    check_rules(rules)
    for rule in rules:
        check_raisable(rule)
    found = []
    for outer in range(len(rules)):
        found.extend(overlaps_into(rules, outer))
    return found


def overlaps_into(rules, outer):
    """Return the list of the overlaps of all rules into rule outer."""
    found = []
    spots = places(rules[outer][0])
    for inner, (left, _) in enumerate(rules):
        for position, part in spots.get(left[0], []):
            overlap = overlap_on(rules, outer, inner, position, part)
            if overlap is not None:
                found.append((outer, inner, position, *overlap))
    return found


def overlap_on(rules, outer, inner, position, part):
    """Return the overlap at the position, where part is the subterm there, or None."""
    if isinstance(part, int) or (len(position) == 0 and inner >= outer):
        return None
    # Most pairs of terms differ in a name, which is quickly seen.
    if _have_clash(part, rules[inner][0]):
        return None
    # Else a variable of the outer rule could be one of the raised ones.
    check_raisable(rules[outer])
    solved = unify(part, raised(rules[inner][0]))
    if solved is None:
        return None
    peak, right = rules[outer]
    sides = (peak, replace(peak, position, raised(rules[inner][1])), right)
    _check_bounds(sides, solved)
    renaming = {}
    for variable in variables(substitute(peak, solved)):
        renaming[variable] = len(renaming)
    peak, left, right = [_renamed(side, solved, renaming) for side in sides]
    steps = [(("given", inner), False, position, _values(rules[inner], RAISE, solved, renaming)),
             (("given", outer), True, (), _values(rules[outer], 0, solved, renaming))]
    return peak, left, right, steps


def places(left):
    """Return a dict from each name in the term to the list of its tuples (position, subterm)."""
    found = {}
    for position in positions(left):
        part = subterm(left, position)
        if isinstance(part, tuple):
            found.setdefault(part[0], []).append((position, part))
    return found


def _have_clash(first, second):
    """Return True if two terms have different names at one position."""
    waiting = [(first, second)]
    while waiting:
        left, right = waiting.pop()
        if isinstance(left, tuple) and isinstance(right, tuple):
            if left[0] != right[0]:
                return True
            waiting.extend(list(zip(left[1:], right[1:])))
    return False


def _values(rule, raise_by, solved, renaming):
    """Return the substitution for a rule whose variables were raised by a number."""
    return {variable: _renamed(variable + raise_by, solved, renaming) for variable in variables(rule[0])}


def _check_bounds(sides, solved):
    """Raise TooLarge if one of the terms is not within bounds after the solved form is applied."""
    for side in sides:
        shape = profile(side)
        shapes = {variable: profile(solved.get(variable, variable)) for variable in shape[2]}
        total, deepest, _ = filled(shape, shapes)
        if not is_within(total, deepest):
            raise TooLarge()


def _renamed(term, solved, renaming):
    return substitute(substitute(term, solved), renaming)
