"""The search for the first model of a size in which all but the last of some equations hold.

The results of all operations stand in one list of cells, in the order in which models are
compared. An equation depends only on the cells that are read for it, so all models
that agree in these are passed over together.
"""

from joinedends.nodes import Nodes


def power(base, exponent):
    """Return the base to the power of the exponent."""
    result = 1
    for _ in range(exponent):
        result *= base
    return result


class CompiledEquation:
    """An equation whose sides are computed from a list of cells.

    The assignments to its variables are numbered. A mask is an integer with a bit for each of
    them, so that all assignments are looked at together.
    """

    def __init__(self, left, right, offsets, size):
        nodes = Nodes()
        self._left = nodes.number(left)
        self._right = nodes.number(right)
        self._size = size
        # For each node the place of its variable and None, or its first cell and its arguments.
        self._rows = []
        count = 0
        for node in range(nodes.total()):
            symbol = nodes.symbol(node)
            if isinstance(symbol, int):
                self._rows.append((count, None))
                count += 1
            else:
                self._rows.append((offsets[symbol], nodes.arguments(node)))
        # For each variable the masks of the assignments that give it 0, 1 and so on.
        self._masks = [_masks_of(place, count, size) for place in range(count)]
        self._all = (1 << power(size, count)) - 1

    def failing(self, cells):
        """Return the number of the leading cells that show that the equation does not hold, or
        None if it holds.
        """
        unequal, _ = self._compare(cells, self._all)
        if unequal == 0:
            return None
        # One assignment is enough to show it, and it may need fewer cells.
        return self._compare(cells, unequal & -unequal)[1]

    def holding(self, cells):
        """Return the number of the leading cells that show that the equation holds, or None if
        it does not hold.
        """
        unequal, reach = self._compare(cells, self._all)
        return reach if unequal == 0 else None

    def _compare(self, cells, chosen):
        """Return the mask of those of the chosen assignments under which the sides are unequal,
        and the number of the leading cells that were needed for it.
        """
        # Equal sides are equal in each model, whatever its cells are.
        if self._left == self._right:
            return 0, 0
        reach = 0
        found = []
        for first, arguments in self._rows:
            if arguments is None:
                found.append(self._masks[first])
                continue
            keys = [chosen]
            for argument in arguments:
                keys = [mask & other for mask in keys for other in found[argument]]
            masks = [0] * self._size
            for at, mask in enumerate(keys, first):
                if mask != 0:
                    masks[cells[at]] |= mask
                    reach = max(reach, at + 1)
            found.append(masks)
        unequal = 0
        for one, other in zip(found[self._left], found[self._right]):
            unequal |= (one ^ other) & chosen
        return unequal, reach


class Search:
    """Looks for the first model of a size that separates the last equation from those before it."""

    def __init__(self, signature, equations, size):
        self._size = size
        self._arities = {name: signature.arity(name) for name in signature}
        self._offsets = {}
        self._total = 0
        for name in signature:
            self._offsets[name] = self._total
            self._total += power(size, signature.arity(name))
        compiled = [CompiledEquation(left, right, self._offsets, size) for left, right in equations]
        self._given = compiled[:-1]
        self._asked = compiled[-1]

    def first(self):
        """Return the first model in which the given equations hold and the asked one does not."""
        cells = [0] * self._total
        while cells is not None:
            reach = self._conflict(cells)
            if reach is None:
                return self._model(cells)
            cells = self._following(cells, reach)
        return None

    def _conflict(self, cells):
        """Return the number of the leading cells that show that the model does not separate, or
        None if it separates.
        """
        for equation in self._given:
            reach = equation.failing(cells)
            if reach is not None:
                return reach
        return self._asked.holding(cells)

    def _following(self, cells, reach):
        """Return the next cells that differ in the leading ones, or None if there are none."""
        at = reach - 1
        while at >= 0 and cells[at] == self._size - 1:
            at -= 1
        if at < 0:
            return None
        return cells[:at] + [cells[at] + 1] + [0] * (self._total - at - 1)

    def _model(self, cells):
        tables = {}
        for name in self._offsets:
            table = {}
            for number, key in enumerate(_all_lists(self._size, self._arities[name])):
                result = cells[self._offsets[name] + number]
                if result > 0:
                    table[tuple(key)] = result
            tables[name] = table
        return self._size, tables


def _all_lists(size, count):
    """Return all lists of this many elements in ascending order."""
    rows = [[]]
    for _ in range(count):
        rows = [row + [element] for row in rows for element in range(size)]
    return rows


def _masks_of(place, count, size):
    """Return for each element the mask of the assignments that give it to the variable at a place."""
    span = power(size, count - 1 - place)
    masks = [0] * size
    for number in range(power(size, count)):
        masks[number // span % size] |= 1 << number
    return masks
