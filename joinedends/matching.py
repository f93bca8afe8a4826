"""Matching: substitutions that turn patterns into given terms."""


def match_term(pattern, term):
    """Return the match of the pattern with the term, or None if there is none."""
    return match_lists([pattern], [term])


def match_lists(patterns, terms):
    """Return the match of a list of patterns with a list of terms, or None."""
    found = {}
    waiting = list(zip(patterns[::-1], terms[::-1]))
    while waiting:
        pattern, term = waiting.pop()
        if isinstance(pattern, int):
            if found.setdefault(pattern, term) != term:
                return None
        elif isinstance(term, int) or pattern[0] != term[0] or len(pattern) != len(term):
            return None
        else:
            waiting.extend(list(zip(pattern[:0:-1], term[:0:-1])))
    return found


def is_instance(equation, general):
    """Return True if the equation is an instance of the general one."""
    return match_lists(list(general), list(equation)) is not None


def subsumes(general, equation):
    """Return True if the equation or its mirror image is an instance of the general one."""
    left, right = equation
    return is_instance((left, right), general) or is_instance((right, left), general)
