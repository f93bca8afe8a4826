"""Signatures: the operations from which terms are made."""

from joinedends.errors import Duplicate, InvalidArity, InvalidName, TooLarge, UnknownName, WrongArity
from joinedends.terms import check_size, symbols

MAX_OPERATIONS = 12
MAX_ARITY = 3
MAX_NAME = 8
LETTERS = "abcdefghijklmnopqrstuvwxyz"


def is_name(text):
    """Return True if the string is a name."""
    return 1 <= len(text) <= MAX_NAME and all([letter in LETTERS for letter in text])


def check_names(names, term):
    """Raise UnknownName for the first name in the term that is not among the names."""
    for symbol in symbols(term):
        if isinstance(symbol, str) and symbol not in names:
            raise UnknownName(symbol)


class Signature:
    """A list of operations, each with an arity and a flag for commutative ones."""

    def __init__(self):
        self._names = []
        self._arities = {}
        self._ranks = {}
        self._flags = {}

    def __len__(self):
        return len(self._names)

    def __contains__(self, name):
        return name in self._ranks

    def __iter__(self):
        return iter(self._names)

    def declare(self, name, arity, *, commutative=False):
        """Add an operation and return its rank."""
        if not is_name(name):
            raise InvalidName()
        if arity < 0 or arity > MAX_ARITY or (commutative and arity != 2):
            raise InvalidArity()
        if name in self._ranks:
            raise Duplicate()
        if len(self._names) >= MAX_OPERATIONS:
            raise TooLarge()
        rank = len(self._names)
        self._names.append(name)
        self._arities[name] = arity
        self._ranks[name] = rank
        self._flags[name] = commutative
        return rank

    def arity(self, name):
        """Return the arity of a declared name."""
        self._require(name)
        return self._arities[name]

    def rank(self, name):
        """Return the rank of a declared name."""
        self._require(name)
        return self._ranks[name]

    def is_commutative(self, name):
        """Return True if the declared name is the name of a commutative operation."""
        self._require(name)
        return self._flags[name]

    def copy(self):
        """Return a new signature with the same operations."""
        other = Signature()
        for name in list(self._names):
            other.declare(name, self._arities[name], commutative=self._flags[name])
        return other

    def constants(self):
        """Return the list of the names of the constants."""
        return [name for name in self._names if self._arities[name] == 0]

    def check(self, term):
        """Raise an error if the term does not fit the signature or is not within bounds."""
        waiting = [term]
        while waiting:
            part = waiting.pop()
            if isinstance(part, tuple):
                self._require(part[0])
                if len(part) - 1 != self._arities[part[0]]:
                    raise WrongArity(part[0])
                waiting.extend(part[:0:-1])
        check_size(term)

    def _require(self, name):
        if name not in self._ranks:
            raise UnknownName(name)
