"""Models by the words of points 60 to 64 alone, to compare with."""

import itertools

from joinedends.terms import variables


def plain_value(model, term, assignment):
    if isinstance(term, int):
        return assignment[term]
    return model[1][term[0]].get(tuple(plain_value(model, part, assignment) for part in term[1:]), 0)


def plain_names(left, right):
    return list(dict.fromkeys(variables(left) + variables(right)))


def plain_counterexample(model, left, right):
    names = plain_names(left, right)
    for values in itertools.product(range(model[0]), repeat=len(names)):
        assignment = dict(zip(names, values))
        if plain_value(model, left, assignment) != plain_value(model, right, assignment):
            return assignment
    return None


def all_models(names, size):
    """All models of the size for the signature, in their order."""
    cells = [(name, key) for name in names for key in itertools.product(range(size), repeat=names.arity(name))]
    for values in itertools.product(range(size), repeat=len(cells)):
        tables = {name: {} for name in names}
        for (name, key), result in zip(cells, values):
            if result > 0:
                tables[name][key] = result
        yield size, tables


def plain_find(names, given, left, right, max_size, max_models):
    for size in range(1, max_size + 1):
        count = sum(size ** names.arity(name) for name in names)
        wide = max(len(plain_names(*equation)) for equation in [*given, (left, right)])
        if size ** count > max_models or size ** wide > 4096:
            continue
        for model in all_models(names, size):
            if all(plain_counterexample(model, *equation) is None for equation in given):
                if plain_counterexample(model, left, right) is not None:
                    return model
    return None
