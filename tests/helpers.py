"""What several tests need: short ways to write terms, and terms made from seeded numbers."""

import random

from joinedends.notation import read_equation, read_term
from joinedends.signature import Signature
from joinedends.terms import occurs

A = ("a",)
B = ("b",)
ARITIES = {"a": 0, "b": 0, "c": 0, "g": 1, "h": 1, "f": 2, "m": 2, "k": 3}


def t(text):
    return read_term(text)


def eq(text):
    return read_equation(text)


def signature(names="a b g h f k", commutative=""):
    """A signature with these operations in this order, each with its arity from ARITIES."""
    result = Signature()
    for name in names.split():
        result.declare(name, ARITIES[name], commutative=name in commutative.split())
    return result


def shuffled(rng):
    """All names of ARITIES in a seeded order."""
    names = sorted(ARITIES)
    rng.shuffle(names)
    return " ".join(names)


def tower(name, height, end):
    """The term name(name(.. end)) with height applications of the name."""
    for _ in range(height):
        end = (name, end)
    return end


def comb(name, count, end):
    """The term name(end, name(end, .. end)) with count applications: size 2 * count + 1."""
    result = end
    for _ in range(count):
        result = (name, end, result)
    return result


def bush(name, levels, end):
    """The full tree of two-place applications with this many levels above the end."""
    for _ in range(levels):
        end = (name, end, end)
    return end


def sized(count):
    """A term of this size and of small depth, made of f, g and a (sizes from 1)."""
    if count == 1:
        return A
    if count == 2:
        return ("g", A)
    half = (count - 1) // 2
    return ("f", sized(half), sized(count - 1 - half))


def rules_of(*texts):
    return [read_equation(text) for text in texts]


def random_term(rng, depth, variables=3):
    if depth == 1 or rng.random() < 0.2:
        if rng.random() < 0.6:
            return rng.randrange(variables)
        return rng.choice([A, B])
    name = rng.choice(["g", "h", "f", "f", "k"])
    return (name,) + tuple(random_term(rng, depth - 1, variables) for _ in range(ARITIES[name]))


def seeded(number):
    return random.Random(number)


def all_positions(term):
    """The positions of a term, found in another way than the program does."""
    if isinstance(term, int):
        return [()]
    rows = [()]
    for at, argument in enumerate(term[1:], 1):
        rows.extend((at,) + rest for rest in all_positions(argument))
    return rows


def plain_substitute(term, substitution):
    if isinstance(term, int):
        return substitution.get(term, term)
    return (term[0],) + tuple(plain_substitute(part, substitution) for part in term[1:])


def plain_unify(left, right):
    """The solved form, found by solving one pair after the other, or None."""
    found = {}
    waiting = [(left, right)]
    while waiting:
        one, other = (plain_substitute(side, found) for side in waiting.pop())
        if one == other:
            continue
        if isinstance(one, int) and isinstance(other, int):
            one, other = max(one, other), min(one, other)
        elif isinstance(other, int):
            one, other = other, one
        if isinstance(one, int):
            if occurs(one, other):
                return None
            found = {key: plain_substitute(value, {one: other}) for key, value in found.items()}
            found[one] = other
        elif one[0] != other[0]:
            return None
        else:
            waiting.extend(zip(one[1:], other[1:]))
    return found
