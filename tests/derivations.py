"""Derivations made from seeded numbers, and a plain flat form to compare with."""

from helpers import all_positions, eq, plain_substitute, random_term
from joinedends.matching import match_term
from joinedends.terms import replace, subterm, variables

GIVEN = [eq("f(x0, x1) = f(x1, x0)"), eq("g(x0) = h(x0)"), eq("f(x0, a) = x0"), eq("k(x0, x1, x1) = x0"),
         eq("f(f(x0, x1), x2) = f(x0, f(x1, x2))"), eq("a = b")]


def side_variables(equation):
    return sorted(set(variables(equation[0]) + variables(equation[1])))


def random_step(rng, stages, term):
    """A step that applies to the term, and its result, or None if the choice fits nowhere."""
    sources = [("given", i) for i in range(len(GIVEN))] + 2 * [("stage", j) for j in range(len(stages))]
    source = rng.choice(sources)
    rows = GIVEN if source[0] == "given" else stages
    equation = rows[source[1]][:2]
    is_forward = rng.random() < 0.5
    old, new = equation if is_forward else equation[::-1]
    position = rng.choice(all_positions(term))
    found = match_term(old, subterm(term, position))
    if found is None:
        return None
    for name in side_variables(equation):
        if name not in found:
            found[name] = random_term(rng, 2, 5)
    result = replace(term, position, plain_substitute(new, found))
    return (source, is_forward, position, found), result


def random_steps(rng, stages, term, count):
    steps, end = [], term
    for _ in range(12 * count):
        made = random_step(rng, stages, end)
        if made is not None and len(all_positions(made[1])) < 120 and len(steps) < count:
            steps.append(made[0])
            end = made[1]
    return steps, end


def random_stages(rng, count):
    stages = []
    for _ in range(count):
        left = random_term(rng, 4, 4)
        steps, right = random_steps(rng, stages, left, rng.randrange(5))
        stages.append((left, right, steps))
    return stages


def plain_flat(stages, number):
    """The flat form of a stage, made exactly as the document says it."""
    flat = []
    for source, is_forward, position, substitution in stages[number][2]:
        if source[0] == "given":
            flat.append((source, is_forward, position, dict(substitution)))
            continue
        rows = plain_flat(stages, source[1])
        if not is_forward:
            rows = [(s, not d, p, v) for s, d, p, v in rows[::-1]]
        for inner, is_inner_forward, place, values in rows:
            values = {key: plain_substitute(value, substitution) for key, value in values.items()}
            flat.append((inner, is_inner_forward, position + place, values))
    return flat
