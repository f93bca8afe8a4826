"""Terms: variables as integers, applications as tuples of a name and its arguments."""

from joinedends.errors import NoPosition, TooLarge
from joinedends.measures import measure

MAX_SIZE = 400
MAX_DEPTH = 30


def is_variable(term):
    """Return True if the term is a variable."""
    return isinstance(term, int)


def is_ground(term):
    """Return True if no variable occurs in the term."""
    return not variables(term)


def size(term):
    """Return the number of occurrences of variables and operations."""
    return measure(term)[0]


def depth(term):
    """Return the depth of the term."""
    return measure(term)[1]


def is_within(total, deepest):
    """Return True if a term of this size and depth is within bounds."""
    return total <= MAX_SIZE and deepest <= MAX_DEPTH


def check_size(term):
    """Raise TooLarge if the term is not within bounds."""
    total, deepest = measure(term)
    if not is_within(total, deepest):
        raise TooLarge()


def symbols(term):
    """Return the list of the variables and names from left to right."""
    found = []
    waiting = [term]
    while waiting:
        part = waiting.pop()
        if isinstance(part, int):
            found.append(part)
        else:
            found.append(part[0])
            waiting.extend(part[:0:-1])
    return found


def variables(term):
    """Return the list of the variables in the order of their first occurrence."""
    found = {}
    for symbol in symbols(term):
        if isinstance(symbol, int):
            found[symbol] = True
    return list(found)


def occurs(variable, term):
    """Return True if the variable occurs in the term."""
    return variable in variables(term)


def positions(term):
    """Return the list of the positions from left to right."""
    found = []
    waiting = [((), term)]
    while waiting:
        position, part = waiting.pop()
        found.append(position)
        if isinstance(part, tuple):
            for at in range(len(part) - 1, 0, -1):
                waiting.append((position + (at,), part[at]))
    return found


def _spine(term, position):
    """Return the subterms from the whole term down to the one at the position."""
    part = term
    spine = [part]
    for at in position:
        if isinstance(part, int) or at < 1 or at >= len(part):
            raise NoPosition()
        part = part[at]
        spine.append(part)
    return spine


def subterm(term, position):
    """Return the subterm at the position."""
    return _spine(term, position)[-1]


def replace(term, position, new):
    """Return the term with the subterm at the position replaced by the new one."""
    spine = _spine(term, position)
    result = new
    for level in range(len(position) - 1, -1, -1):
        whole = spine[level]
        at = position[level]
        result = whole[:at] + (result,) + whole[at + 1:]
    return result


def first_difference(left, right):
    """Return the first argument, counted from 1, at which two different applications of the
    same operation differ.
    """
    at = 1
    while left[at] == right[at]:
        at += 1
    return at


def order_key(term):
    """Return a value whose order is the order of terms."""
    row = []
    for symbol in symbols(term):
        # As strings, the digits of a variable come before each name, and the space behind a name
        # before each letter of a longer one.
        row.append(f"{symbol:05d}" if isinstance(symbol, int) else symbol + " ")
    return len(row), "".join(row)


def compare_terms(first, second):
    """Return -1, 0 or 1 if the first term comes before, equals or comes after the second."""
    left = order_key(first)
    right = order_key(second)
    if left < right:
        return -1
    if left > right:
        return 1
    return 0


def substitute(term, substitution):
    """Return the term after the substitution is applied, all at once."""
    if isinstance(term, int):
        return substitution.get(term, term)
    parts = [term[0]]
    # A comprehension would need two frames for each level of a deep term.
    for argument in term[1:]:
        parts.append(substitute(argument, substitution))
    return tuple(parts)


def canonical(left, right):
    """Return the canonical form of the equation."""
    renaming = canonical_renaming(left, right)
    return substitute(left, renaming), substitute(right, renaming)


def canonical_renaming(left, right):
    """Return the substitution that gives the canonical form of the equation."""
    renaming = {}
    for variable in variables(left) + variables(right):
        if variable not in renaming:
            renaming[variable] = len(renaming)
    return renaming
