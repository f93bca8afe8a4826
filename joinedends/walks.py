"""Following steps from a term."""

from joinedends.errors import BadStep, NoPosition
from joinedends.measures import filled, measure, profile
from joinedends.terms import replace, substitute, subterm

CHAIN_SIZE = 4000
CHAIN_DEPTH = 120


class Walk:
    """Follows lists of steps by given equations and by the equations of stages."""

    def __init__(self, given, stages):
        self._given = given
        self._stages = stages
        # What is known of the equations that were named, since steps often name the same one.
        self._known = {}

    def follow(self, term, steps, bound):
        """Return the list of the visited terms.

        Only the stages before the bound may be named. Raises BadStep with the number of the
        first step that does not apply.
        """
        terms = [term]
        total, deepest = measure(term)
        for number, step in enumerate(steps):
            reached = self._result(terms[-1], total, deepest, step, bound)
            if reached is None:
                raise BadStep(number)
            after, total, deepest = reached
            terms.append(after)
        return terms

    def _result(self, term, total, deepest, step, bound):
        """Return the result of a step, its size and its depth, or None if it does not apply."""
        source, is_forward, position, substitution = step
        equation = self._equation(source, bound)
        if equation is None or sorted(substitution) != equation[0]:
            return None
        try:
            part = subterm(term, position)
        except NoPosition:
            return None
        sides = equation[1:] if is_forward else equation[:0:-1]
        (old, old_shape), (new, new_shape) = sides
        if fill(old, old_shape, substitution) != part:
            return None
        # Counted before the new part is put in: it may be much too large to walk over.
        shapes = {variable: profile(substitution[variable]) for variable in substitution}
        new_total, new_deepest, _ = filled(new_shape, shapes)
        total += new_total - filled(old_shape, shapes)[0]
        if total > CHAIN_SIZE:
            return None
        result = replace(term, position, fill(new, new_shape, substitution))
        if deepest > CHAIN_DEPTH:
            deepest = measure(result)[1]
        else:
            # Too much if the step took the deepest part away. But the rest of the term is not
            # too deep, so the exact depth would not change which steps apply.
            deepest = max(deepest, len(position) + new_deepest)
        return None if deepest > CHAIN_DEPTH else (result, total, deepest)

    def _equation(self, source, bound):
        """Return (variables, left, right), each side with its profile, or None."""
        kind, index = source
        rows = self._given if kind == "given" else self._stages
        end = len(rows) if kind == "given" else bound
        if index < 0 or index >= end:
            return None
        if source not in self._known:
            left, right = rows[index][:2]
            left_shape = profile(left)
            right_shape = profile(right)
            names = sorted(set(list(left_shape[2]) + list(right_shape[2])))
            self._known[source] = (names, (left, left_shape), (right, right_shape))
        return self._known[source]


def fill(term, shape, substitution):
    """Return the term with this profile after the substitution is applied."""
    # Large terms are often ground: then there is no need to walk over them again.
    return substitute(term, substitution) if shape[2] else term
