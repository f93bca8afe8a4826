"""Terms up to exchanged arguments of commutative operations, and up to their grouping."""

from joinedends.errors import TooLarge
from joinedends.matching import match_term
from joinedends.terms import check_size, order_key, symbols

MAX_COMMUTATIVE = 8


def sorted_form(signature, term):
    """Return the term with the arguments of commutative operations in ascending order."""
    if isinstance(term, int):
        return term
    parts = []
    for argument in term[1:]:
        parts.append(sorted_form(signature, argument))
    if signature.is_commutative(term[0]):
        parts = sorted(parts, key=order_key)
    return (term[0], *parts)


def are_alike(signature, first, second):
    """Return True if exchanging arguments of commutative operations makes the terms equal."""
    return sorted_form(signature, first) == sorted_form(signature, second)


def commutative_matches(signature, pattern, term):
    """Return the list of the commutative matches of the pattern with the term."""
    if _commutative_count(signature, pattern) > MAX_COMMUTATIVE:
        raise TooLarge()
    # All subterms of a sorted form are sorted, so plain matches with it have sorted values.
    goal = sorted_form(signature, term)
    found = {}
    for arranged in _arrangements(signature, pattern):
        values = match_term(arranged, goal)
        if values is not None:
            found[repr(sorted(values.items()))] = values
    return sorted(list(found.values()), key=_match_key)


def _commutative_count(signature, term):
    """Return the number of occurrences of commutative operations."""
    names = [symbol for symbol in symbols(term) if isinstance(symbol, str)]
    return len([name for name in names if signature.is_commutative(name)])


def _arrangements(signature, term):
    """Return the terms that exchanging arguments of commutative operations makes of the term."""
    if isinstance(term, int):
        return [term]
    rows = [(term[0],)]
    for argument in term[1:]:
        options = _arrangements(signature, argument)
        rows = [row + (option,) for row in rows for option in options]
    if signature.is_commutative(term[0]):
        rows = rows + [(name, second, first) for name, first, second in rows]
    return rows


def _match_key(values):
    return [order_key(values[variable]) for variable in sorted(values)]


def combined_form(operations, term):
    """Return the term with the flat arguments of the listed operations in ascending order."""
    result = _combined(operations, term)
    check_size(result)
    return result


def are_combined_alike(operations, first, second):
    """Return True if the combined forms of the two terms are equal."""
    return combined_form(operations, first) == combined_form(operations, second)


def _combined(operations, term):
    if isinstance(term, int):
        return term
    is_listed = term[0] in operations
    parts = []
    for argument in _flat_arguments(term[0], term) if is_listed else term[1:]:
        parts.append(_combined(operations, argument))
    if not is_listed:
        return (term[0], *parts)
    parts = sorted(parts, key=order_key)
    result = parts[-1]
    for part in parts[-2::-1]:
        result = (term[0], part, result)
    return result


def _flat_arguments(name, term):
    """Return the list of the flat arguments of the term for an operation."""
    found = []
    waiting = [term]
    while waiting:
        part = waiting.pop()
        if isinstance(part, tuple) and part[0] == name:
            waiting.extend([part[2], part[1]])
        else:
            found.append(part)
    return found
