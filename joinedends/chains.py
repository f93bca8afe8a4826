"""Chains of steps, stages, derivations and their flat forms."""

from joinedends.errors import BadStep, StepLimit
from joinedends.flatforms import flat_lengths, flat_steps
from joinedends.terms import substitute
from joinedends.walks import Walk


def apply_step(given, stages, term, step):
    """Return the result of the step."""
    return visited(given, stages, term, [step])[-1]


def visited(given, stages, term, steps):
    """Return the list of the visited terms."""
    return Walk(given, stages).follow(term, steps, len(stages))


def is_derivation(given, left, right, stages):
    """Return True if the stages are a derivation of the equation from the given ones."""
    if not stages or stages[-1][0] != left or stages[-1][1] != right:
        return False
    walk = Walk(given, stages)
    for number, (first, last, steps) in enumerate(stages):
        try:
            reached = walk.follow(first, steps, number)
        except BadStep:
            return False
        if reached[-1] != last:
            return False
    return True


def reverse(steps):
    """Return the steps in opposite order, each in the opposite direction."""
    return [(source, not is_forward, position, dict(substitution))
            for source, is_forward, position, substitution in steps[::-1]]


def moved(steps, position):
    """Return the steps moved to a position."""
    return [(source, is_forward, position + inner, dict(substitution))
            for source, is_forward, inner, substitution in steps]


def instantiated(steps, substitution):
    """Return the steps with the substitution applied to each of their values."""
    return [(source, is_forward, position, {key: substitute(values[key], substitution) for key in values})
            for source, is_forward, position, values in steps]


def flat_length(stages):
    """Return the number of steps in the flat form."""
    return flat_lengths(stages)[-1]


def flatten(stages, limit):
    """Return the flat form, which has at most limit steps."""
    lengths = flat_lengths(stages)
    if lengths[-1] > limit:
        raise StepLimit()
    return flat_steps(stages, lengths)


def shorten(given, term, steps):
    """Return the steps without those that lead back to a term that was visited before."""
    # The terms themselves may be nested too deep for keys.
    written = [repr(place) for place in visited(given, [], term, steps)]
    last = {}
    for number, text in enumerate(written):
        last[text] = number
    kept = []
    at = last[written[0]]
    while at < len(steps):
        source, is_forward, position, substitution = steps[at]
        kept.append((source, is_forward, position, dict(substitution)))
        at = last[written[at + 1]]
    return kept


def used(stages):
    """Return the ascending list of the indexes of the given equations that are named."""
    found = {}
    for stage in stages:
        for step in stage[2]:
            kind, index = step[0]
            if kind == "given":
                found[index] = True
    return sorted(found)
