"""The flat form of a derivation: the same chain by steps with given sources only.

Here a call is a tuple (source, is_forward, position, values, shapes): a step together with
the profile of each of its values.
"""

from joinedends.errors import TooLarge
from joinedends.measures import filled, profile
from joinedends.walks import CHAIN_DEPTH, CHAIN_SIZE, fill


def flat_lengths(stages):
    """Return for each stage the number of steps in its flat form."""
    lengths = []
    for stage in stages:
        total = 0
        for step in stage[2]:
            kind, index = step[0]
            total += 1 if kind == "given" else lengths[index]
        lengths.append(total)
    return lengths


def flat_steps(stages, lengths):
    """Return the flat form, given the lengths of the flat forms of all stages.

    Raises TooLarge if a value in the flat form is too large. Only values that reach the flat
    form are looked at. These never shrink on the way, so the first one that is too large decides.
    """
    calls = {}
    # For each stage the variables that occur in the values of its flat form.
    names = {}
    for number in _needed(stages, lengths):
        calls[number] = []
        names[number] = {}
        for step in stages[number][2]:
            if step[0][0] == "given" or lengths[step[0][1]] > 0:
                call = _shortcut(_call(step, names), calls)
                calls[number].append(call)
                for shape in call[4].values():
                    names[number].update(shape[2])
    return _spread(calls, len(stages) - 1)


def _needed(stages, lengths):
    """Return the ascending list of the last stage and the stages that give it flat steps."""
    last = len(stages) - 1
    needed = {last: True}
    for number in range(last, -1, -1):
        if number in needed:
            for step in stages[number][2]:
                kind, index = step[0]
                if kind == "stage" and lengths[index] > 0:
                    needed[index] = True
    return sorted(needed)


def _call(step, names):
    """Return the call for a step, with a value for each variable of the flat form behind it."""
    source, is_forward, position, substitution = step
    if source[0] == "given":
        values = {key: substitution[key] for key in substitution}
    else:
        # A variable without a value stays; a key that the flat form lacks has no effect.
        values = {key: substitution.get(key, key) for key in names[source[1]]}
    shapes = {key: profile(values[key]) for key in values}
    _check(shapes)
    return source, is_forward, position, values, shapes


def _check(shapes):
    for total, deepest, _ in shapes.values():
        if total > CHAIN_SIZE or deepest > CHAIN_DEPTH:
            raise TooLarge()


def _shortcut(call, calls):
    """Return the call, or the only call of the stage that it names.

    Without chains of single calls there are less than twice as many calls as flat steps.
    """
    kind, index = call[0]
    if kind == "stage" and len(calls[index]) == 1:
        return _inside(call, calls[index][0])
    return call


def _inside(outer, inner):
    """Return a call of the stage that outer names as a call of the stage in which outer stands."""
    source, is_forward, position, values, shapes = inner
    new_shapes = {key: filled(shapes[key], outer[4]) for key in shapes}
    # Checked first, because a value that is too large may be much too large to be built.
    _check(new_shapes)
    new_values = {key: fill(values[key], shapes[key], outer[3]) for key in values}
    return source, is_forward == outer[1], outer[2] + position, new_values, new_shapes


def _spread(calls, last):
    """Return the steps of the flat form of the last stage."""
    flat = []
    waiting = calls[last][::-1]
    while waiting:
        call = waiting.pop()
        kind, index = call[0]
        if kind == "given":
            flat.append(call[:4])
        else:
            # The call that comes first is appended last, because it is taken first.
            rows = calls[index][::-1] if call[1] else calls[index]
            waiting.extend([_inside(call, row) for row in rows])
    return flat
