"""Reading halls from their written forms."""

from joinedends.errors import HallError, Malformed
from joinedends.hall import Hall
from joinedends.notation import read_equation, write_equation
from joinedends.signature import Signature

MAX_DIGITS = 9
KINDS = ("operation", "theory", "import", "equation", "next")


def read_hall(lines):
    """Return the hall with this written form."""
    reader = HallReader()
    for index, line in enumerate(lines):
        if not reader.takes(line):
            raise Malformed(index)
    hall = reader.ended()
    if hall is None:
        raise Malformed(len(lines))
    return hall


class HallReader:
    """Makes a hall line by line."""

    def __init__(self):
        self._signature = Signature()
        # Made when all operations are declared, because a hall copies the signature.
        self._hall = None
        # The place in KINDS of the last line.
        self._kind = 0
        # The place of the theory of the last equation, and the least number that may follow.
        self._place = 0
        self._least = 0
        # How many theories have their next number.
        self._done = 0

    def takes(self, line):
        """Take the line and return True, or return False if it cannot stand here."""
        words = line.split(" ")
        if words[0] not in KINDS:
            return False
        kind = KINDS.index(words[0])
        if kind < self._kind:
            return False
        self._kind = kind
        if kind > 0 and self._hall is None:
            self._hall = Hall(self._signature)
        try:
            return self._takes_words(words)
        except HallError:
            return False

    def ended(self):
        """Return the hall, or None if lines are missing."""
        if self._hall is None:
            self._hall = Hall(self._signature)
        return self._hall if self._done == len(self._hall.theories()) else None

    def _takes_words(self, words):
        """Do what the line says. Return False, or raise an error, if it cannot stand here."""
        kind = words[0]
        if kind == "equation":
            return self._takes_equation(words)
        if kind == "operation":
            return self._takes_operation(words)
        if kind == "theory" and len(words) == 2:
            self._hall.create(words[1])
            return True
        if kind == "import" and len(words) == 3:
            self._hall.include(words[1], words[2])
            return True
        return kind == "next" and self._takes_next(words)

    def _takes_operation(self, words):
        is_commutative = len(words) == 4 and words[3] == "commutative"
        if len(words) != 3 and not is_commutative or not _is_number(words[2]):
            return False
        self._signature.declare(words[1], int(words[2]), commutative=is_commutative)
        return True

    def _takes_equation(self, words):
        if len(words) < 4 or not _is_number(words[2]):
            return False
        name = words[1]
        number = int(words[2])
        text = " ".join(words[3:])
        left, right = read_equation(text)
        if write_equation(left, right) != text or name not in self._hall.theories():
            return False
        place = self._hall.theories().index(name)
        if place < self._place or (place == self._place and number < self._least):
            return False
        self._hall.go_on(name, number)
        self._hall.add(name, left, right)
        self._place = place
        self._least = number + 1
        return True

    def _takes_next(self, words):
        if len(words) != 3 or not _is_number(words[2]):
            return False
        name = words[1]
        names = self._hall.theories()
        numbers = [source[1] for source in self._hall.sources(name) if source[0] == name]
        if self._done == len(names) or name != names[self._done] or int(words[2]) <= max(numbers, default=-1):
            return False
        self._hall.go_on(name, int(words[2]))
        self._done += 1
        return True


def _is_number(text):
    """Return True if the text is a decimal number of at most nine digits, without leading zeros."""
    return text.isdigit() and len(text) <= MAX_DIGITS and (text == "0" or text[0] != "0")
