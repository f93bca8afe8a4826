"""The search for the first model of a size in which all but the last of some equations hold.

The results of all operations stand in one list of cells, in the order in which models are
compared. An equation depends only on the cells that are read for it, so all models
that agree in these are passed over together.
"""

from joinedends.nodes import Nodes


def power(base, exponent):
    """Return the base to the power of the exponent."""
    result = 1
    for _ in range(exponent):
        result *= base
    return result


class CompiledEquation:
    """An equation whose sides are computed from a list of cells."""

    def __init__(self, left, right, offsets, size):
        nodes = Nodes()
        self._left = nodes.number(left)
        self._right = nodes.number(right)
        self._size = size
        # For each node the place of its variable and None, or its first cell and its arguments.
        self._rows = []
        places = {}
        for node in range(nodes.total()):
            symbol = nodes.symbol(node)
            if isinstance(symbol, int):
                places[symbol] = len(places)
                self._rows.append((places[symbol], None))
            else:
                self._rows.append((offsets[symbol], nodes.arguments(node)))
        # Equal sides are equal in each model, whatever its cells are.
        self._assignments = [] if self._left == self._right else _all_lists(size, len(places))

    def failing(self, cells):
        """Return the number of the leading cells that show that the equation does not hold, or
        None if it holds.
        """
        for assignment in self._assignments:
            is_equal, reach = self._compare(cells, assignment)
            if not is_equal:
                return reach
        return None

    def holding(self, cells):
        """Return the number of the leading cells that show that the equation holds, or None if
        it does not hold.
        """
        most = 0
        for assignment in self._assignments:
            is_equal, reach = self._compare(cells, assignment)
            if not is_equal:
                return None
            most = max(most, reach)
        return most

    def _compare(self, cells, assignment):
        """Return whether both sides are equal, and the number of the leading cells that were needed."""
        reach = 0
        values = []
        for first, arguments in self._rows:
            if arguments is None:
                values.append(assignment[first])
            else:
                at = 0
                for argument in arguments:
                    at = at * self._size + values[argument]
                at += first
                reach = max(reach, at + 1)
                values.append(cells[at])
        return values[self._left] == values[self._right], reach


class Search:
    """Looks for the first model of a size that separates the last equation from those before it."""

    def __init__(self, signature, equations, size):
        self._size = size
        self._arities = {name: signature.arity(name) for name in signature}
        self._offsets = {}
        self._total = 0
        for name in signature:
            self._offsets[name] = self._total
            self._total += power(size, signature.arity(name))
        compiled = [CompiledEquation(left, right, self._offsets, size) for left, right in equations]
        self._given = compiled[:-1]
        self._asked = compiled[-1]

    def first(self):
        """Return the first model in which the given equations hold and the asked one does not."""
        cells = [0] * self._total
        while cells is not None:
            reach = self._conflict(cells)
            if reach is None:
                return self._model(cells)
            cells = self._following(cells, reach)
        return None

    def _conflict(self, cells):
        """Return the number of the leading cells that show that the model does not separate, or
        None if it separates.
        """
        for equation in self._given:
            reach = equation.failing(cells)
            if reach is not None:
                return reach
        return self._asked.holding(cells)

    def _following(self, cells, reach):
        """Return the next cells that differ in the leading ones, or None if there are none."""
        at = reach - 1
        while at >= 0 and cells[at] == self._size - 1:
            at -= 1
        if at < 0:
            return None
        return cells[:at] + [cells[at] + 1] + [0] * (self._total - at - 1)

    def _model(self, cells):
        tables = {}
        for name in self._offsets:
            table = {}
            for number, key in enumerate(_all_lists(self._size, self._arities[name])):
                result = cells[self._offsets[name] + number]
                if result > 0:
                    table[tuple(key)] = result
            tables[name] = table
        return self._size, tables


def _all_lists(size, count):
    """Return all lists of this many elements in ascending order."""
    rows = [[]]
    for _ in range(count):
        rows = [row + [element] for row in rows for element in range(size)]
    return rows
