"""Terms as numbers, so that equal subterms are stored once and compared at once."""


class Nodes:
    """Gives equal terms one number, and arguments smaller numbers than the whole term."""

    def __init__(self):
        self._numbers = {}
        self._symbols = []
        self._arguments = []
        self._terms = []
        self._measures = []

    def number(self, term):
        """Return the node of the term."""
        if isinstance(term, int):
            return self.node(term, [])
        arguments = []
        for argument in term[1:]:
            arguments.append(self.number(argument))
        return self.node(term[0], arguments)

    def find(self, term):
        """Return the node of the term, or None if it has none."""
        parts = [term if isinstance(term, int) else term[0]]
        if isinstance(term, tuple):
            for argument in term[1:]:
                parts.append(self.find(argument))
        return self._numbers.get(tuple(parts))

    def node(self, symbol, arguments):
        """Return the node of a variable, or of the application to the terms of other nodes."""
        # Terms themselves may be nested too deep for keys.
        key = (symbol, *arguments)
        if key not in self._numbers:
            self._numbers[key] = len(self._symbols)
            self._symbols.append(symbol)
            self._arguments.append(key[1:])
            self._build(symbol, key[1:])
        return self._numbers[key]

    def _build(self, symbol, arguments):
        total = 1
        deepest = 0
        for argument in arguments:
            total += self._measures[argument][0]
            deepest = max(deepest, self._measures[argument][1])
        self._measures.append((total, deepest + 1))
        if isinstance(symbol, int):
            self._terms.append(symbol)
        else:
            self._terms.append((symbol, *[self._terms[argument] for argument in arguments]))

    def total(self):
        """Return the number of nodes, which are numbered from 0."""
        return len(self._symbols)

    def symbol(self, node):
        """Return the variable, or the operation of the application."""
        return self._symbols[node]

    def arguments(self, node):
        """Return the tuple of the nodes of the arguments."""
        return self._arguments[node]

    def term(self, node):
        """Return the term, which shares its parts with the terms of other nodes."""
        return self._terms[node]

    def measure(self, node):
        """Return (size, depth) of the term."""
        return self._measures[node]
