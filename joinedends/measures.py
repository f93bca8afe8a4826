"""Sizes and depths of terms, also of terms that are not built yet.

Terms share their parts, so a term can be too large to walk over although it is cheap
to build. Its size and depth are therefore counted from the parts that it would be made of.
"""


def profile(term):
    """Return (size, depth, spots) of a term.

    spots maps each variable to how often it occurs and to its greatest level, where the
    whole term has level 1.
    """
    total = 0
    level = 0
    spots = {}
    row = [term]
    while row:
        level += 1
        total += len(row)
        below = []
        for part in list(row):
            if isinstance(part, tuple):
                below.extend(part[1:])
            else:
                count, _ = spots.get(part, (0, 0))
                spots[part] = (count + 1, level)
        row = below
    return total, level, spots


def measure(term):
    """Return (size, depth) of a term."""
    total, deepest, _ = profile(term)
    return total, deepest


def filled(shape, shapes):
    """Return the profile of the term with this profile after a substitution.

    shapes maps each variable of the term to the profile of its value.
    """
    total, deepest, spots = shape
    found = {}
    for variable, (count, level) in spots.items():
        more, below, inner = shapes[variable]
        total += count * (more - 1)
        deepest = max(deepest, level - 1 + below)
        for name, (many, place) in inner.items():
            before, lowest = found.get(name, (0, 0))
            found[name] = (before + count * many, max(lowest, level - 1 + place))
    return total, deepest, found
