"""Overlaps of rules: terms that two rules rewrite in two ways."""

from joinedends.errors import NoPosition, TooLarge
from joinedends.measures import filled, profile
from joinedends.rules import check_rules
from joinedends.terms import is_within, positions, replace, substitute, subterm, variables
from joinedends.unification import RAISE, raised, unify


def overlap_at(rules, outer, inner, position):
    """Return the overlap (peak, left, right, steps) of rule inner into rule outer, or None."""
    _check_variables(rules[outer])
    _check_variables(rules[inner])
    try:
        part = subterm(rules[outer][0], position)
    except NoPosition:
        return None
    return _overlap(rules, outer, inner, position, part)


def overlaps(rules):
    """Return the list of all overlaps as tuples (outer, inner, position, peak, left, right, steps)."""
    check_rules(rules)
    for rule in rules:
        _check_variables(rule)
    found = []
    for outer, (left, _) in enumerate(rules):
        places = [(position, subterm(left, position)) for position in positions(left)]
        for inner in range(len(rules)):
            for position, part in places:
                overlap = _overlap(rules, outer, inner, position, part)
                if overlap is not None:
                    found.append((outer, inner, position, *overlap))
    return found


def _check_variables(rule):
    """Raise TooLarge if the rule has a variable that cannot be raised."""
    for side in rule:
        raised(side)


def _overlap(rules, outer, inner, position, part):
    """Return the overlap at the position, where part is the subterm there, or None."""
    if isinstance(part, int) or (len(position) == 0 and inner >= outer):
        return None
    # Most pairs of rules differ already here.
    if part[0] != rules[inner][0][0]:
        return None
    solved = unify(part, raised(rules[inner][0]))
    if solved is None:
        return None
    peak, right = rules[outer]
    sides = (peak, replace(peak, position, raised(rules[inner][1])), right)
    _check_bounds(sides, solved)
    renaming = {}
    for variable in variables(substitute(peak, solved)):
        renaming[variable] = len(renaming)
    peak, left, right = [_renamed(side, solved, renaming) for side in sides]
    steps = [(("given", inner), False, position, _values(rules[inner], RAISE, solved, renaming)),
             (("given", outer), True, (), _values(rules[outer], 0, solved, renaming))]
    return peak, left, right, steps


def _values(rule, raise_by, solved, renaming):
    """Return the substitution for a rule whose variables were raised by a number."""
    return {variable: _renamed(variable + raise_by, solved, renaming) for variable in variables(rule[0])}


def _check_bounds(sides, solved):
    """Raise TooLarge if one of the terms is not within bounds after the solved form is applied."""
    for side in sides:
        shape = profile(side)
        shapes = {variable: profile(solved.get(variable, variable)) for variable in shape[2]}
        total, deepest, _ = filled(shape, shapes)
        if not is_within(total, deepest):
            raise TooLarge()


def _renamed(term, solved, renaming):
    return substitute(substitute(term, solved), renaming)
