"""Written forms of terms and equations, and their readers."""

from joinedends.errors import Malformed
from joinedends.signature import MAX_ARITY, is_name
from joinedends.terms import check_size

MAX_VARIABLE = 19
WORD_CHARACTERS = "abcdefghijklmnopqrstuvwxyzABCDEFGHIJKLMNOPQRSTUVWXYZ0123456789"
SIGNS = "(),="
NAME = "name"
VARIABLE = "variable"
END = "end"
# What no reader accepts anywhere.
UNREADABLE = "unreadable"


def write_term(term):
    """Return the written form of a term."""
    if isinstance(term, int):
        return f"x{term}"
    if len(term) == 1:
        return term[0]
    parts = []
    for argument in term[1:]:
        parts.append(write_term(argument))
    return term[0] + "(" + ", ".join(parts) + ")"


def write_equation(left, right):
    """Return the written form of an equation."""
    return write_term(left) + " = " + write_term(right)


def read_term(text):
    """Return the term that is written in the text."""
    tokens = Tokens(text)
    term = _read_part(tokens)
    tokens.take((END,))
    check_size(term)
    return term


def read_equation(text):
    """Return the equation that is written in the text, as a tuple."""
    tokens = Tokens(text)
    left = _read_part(tokens)
    tokens.take(("=",))
    right = _read_part(tokens)
    tokens.take((END,))
    check_size(left)
    check_size(right)
    return left, right


def _read_part(tokens):
    """Read one term and leave what follows it."""
    kind, word = tokens.take((NAME, VARIABLE))
    if kind == VARIABLE:
        return int(word[1:])
    parts = [word]
    if tokens.kind() == "(":
        tokens.take(("(",))
        parts.append(_read_part(tokens))
        while tokens.kind() == "," and len(parts) <= MAX_ARITY:
            tokens.take((",",))
            parts.append(_read_part(tokens))
        tokens.take((")",))
    return tuple(parts)


class Tokens:
    """The tokens of a text, taken one after the other."""

    def __init__(self, text):
        self._rows = _split(text)
        self._at = 0

    def kind(self):
        """Return the kind of the next token."""
        return self._rows[self._at][0]

    def take(self, kinds):
        """Return the kind and the text of the next token, which is one of these kinds."""
        kind, word, index = self._rows[self._at]
        if kind not in kinds:
            raise Malformed(index)
        self._at += 1
        return kind, word


def _split(text):
    """Return the list of the tokens as tuples (kind, text, index), the end of the text last."""
    rows = []
    at = 0
    while at < len(text):
        start = at
        if text[at] in WORD_CHARACTERS:
            while at < len(text) and text[at] in WORD_CHARACTERS:
                at += 1
            word = text[start:at]
            rows.append((_kind_of_word(word), word, start))
            continue
        at += 1
        if text[start] in SIGNS:
            rows.append((text[start], text[start], start))
        elif text[start] != " ":
            rows.append((UNREADABLE, text[start], start))
    rows.append((END, "", len(text)))
    return rows


def _kind_of_word(word):
    if is_name(word):
        return NAME
    digits = word[1:]
    if word[0] == "x" and digits.isdigit() and len(digits) <= 2:
        if int(digits) <= MAX_VARIABLE and str(int(digits)) == digits:
            return VARIABLE
    return UNREADABLE
