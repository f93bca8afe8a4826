"""Finite models: values of terms, counterexamples, and models that separate equations."""

from joinedends.modelsearch import Search, power
from joinedends.terms import variables

MAX_ASSIGNMENTS = 4096


def cell_count(signature, size):
    """Return the number of cells of a model of this size."""
    return sum([power(size, signature.arity(name)) for name in signature])


def value(model, term, assignment):
    """Return the value of the term under the assignment."""
    _, tables = model
    columns = {variable: [assignment[variable]] for variable in assignment}
    return _column(tables, term, columns, 1)[0]


def holds(model, left, right):
    """Return True if the equation holds in the model."""
    return counterexample(model, left, right) is None


def counterexample(model, left, right):
    """Return the first counterexample of the equation, or None if it holds."""
    size, tables = model
    names = equation_variables(left, right)
    columns = {}
    span = power(size, len(names))
    count = span
    for name in names:
        span = span // size
        columns[name] = [number // span % size for number in range(count)]
    lefts = _column(tables, left, columns, count)
    rights = _column(tables, right, columns, count)
    for number, (first, second) in enumerate(zip(lefts, rights)):
        if first != second:
            return {name: columns[name][number] for name in names}
    return None


def is_model(signature, model):
    """Return True if the model has the form of a model for the signature."""
    size, tables = model
    if size < 1 or sorted(tables) != sorted(list(signature)):
        return False
    for name in signature:
        for key, result in tables[name].items():
            if len(key) != signature.arity(name) or result < 1 or result >= size:
                return False
            if len(key) > 0 and (min(key) < 0 or max(key) >= size):
                return False
    return True


def separates(signature, given, left, right, model):
    """Return True if it is a model in which all given equations hold and the equation does not."""
    if not is_model(signature, model):
        return False
    for first, second in given:
        if not holds(model, first, second):
            return False
    return not holds(model, left, right)


def find_model(signature, given, left, right, *, max_size=2, max_models=500):
    """Return the first separating model of the least size, within the limits, or None."""
    equations = [*given, (left, right)]
    for size in range(1, max_size + 1):
        if _is_searched(signature, equations, size, max_models):
            model = Search(signature, equations, size).first()
            if model is not None:
                return model
    return None


def equation_variables(left, right):
    """Return the list of the variables of the equation in the order of their first occurrence."""
    found = {}
    for variable in variables(left) + variables(right):
        found[variable] = True
    return list(found)


def has_few_assignments(left, right, size):
    """Return True if the number of assignments of the equation is small enough to look at them."""
    return power(size, len(equation_variables(left, right))) <= MAX_ASSIGNMENTS


def _is_searched(signature, equations, size, max_models):
    if power(size, cell_count(signature, size)) > max_models:
        return False
    return all([has_few_assignments(left, right, size) for left, right in equations])


def _column(tables, term, columns, count):
    """Return the list of the values of the term under as many assignments.

    columns maps each variable to the list of its elements under these assignments.
    """
    if isinstance(term, int):
        return columns[term]
    table = tables[term[0]]
    if len(term) == 1:
        return [table.get((), 0)] * count
    rows = []
    for argument in term[1:]:
        rows.append(_column(tables, argument, columns, count))
    return [table.get(key, 0) for key in zip(*rows)]
