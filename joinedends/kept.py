"""Answers that are kept with their questions, and when they are forgotten."""

from joinedends.answers import APART, OPEN, PARTED, SAME, answer
from joinedends.chains import used
from joinedends.errors import NotFound
from joinedends.models import has_few_assignments, holds
from joinedends.notation import write_equation


class KeptAnswers:
    """The kept answers of one theory.

    A source stands for a given equation, whatever its index is at the moment. For each
    question a row (left, right, answer, sources) is kept, where sources maps the indexes of the
    given equations that a "same" answer names to their sources.
    """

    def __init__(self):
        # Terms may be nested too deep for keys, so the written question is the key.
        self._rows = {}

    def ask(self, signature, equations, question, limits):
        """Return the kept answer to the question, or answer it and keep the answer.

        equations is a dict from the sources to the given equations.
        """
        key = write_equation(*question)
        if key not in self._rows:
            left, right = question
            steps, max_size, max_models = limits
            found = answer(signature, list(equations.values()), left, right, steps=steps, max_size=max_size,
                           max_models=max_models)
            if found[0] == OPEN:
                return found
            sources = list(equations)
            indexes = used(found[1]) if found[0] == SAME else []
            self._rows[key] = (left, right, found, {index: sources[index] for index in indexes})
        return self._current(key, list(equations))

    def questions(self):
        """Return the list of the questions, in the order in which they were answered."""
        return [row[:2] for row in self._rows.values()]

    def rests_on(self, left, right):
        """Return the list of the sources that the kept answer rests on, in their order."""
        key = write_equation(left, right)
        if key not in self._rows:
            raise NotFound()
        return list(self._rows[key][3].values())

    def forget_dropped(self, source):
        """Forget what may not be sound without the equation of the source."""
        for key in list(self._rows):
            _, _, found, sources = self._rows[key]
            if found[0] == PARTED or source in list(sources.values()):
                del self._rows[key]

    def forget_added(self, left, right):
        """Forget what may not be sound with the equation."""
        for key in list(self._rows):
            found = self._rows[key][2]
            if found[0] == PARTED or (found[0] == APART and not _is_shown_to_hold(found[1], left, right)):
                del self._rows[key]

    def _current(self, key, sources):
        """Return a copy of the kept answer, with the indexes that its sources have now."""
        _, _, found, names = self._rows[key]
        if found[0] == APART:
            return (APART, _copied_model(found[1]))
        if found[0] == PARTED:
            return (PARTED, _copied_certificate(found[1]))
        places = {source: index for index, source in enumerate(sources)}
        indexes = {index: places[names[index]] for index in names}
        return (SAME, _copied_stages(found[1], indexes))


def _is_shown_to_hold(model, left, right):
    return has_few_assignments(left, right, model[0]) and holds(model, left, right)


def _copied_steps(steps, indexes):
    """Return new steps, with other indexes of given equations where indexes tells them."""
    found = []
    for source, is_forward, position, substitution in steps:
        kind, index = source
        if kind == "given":
            index = indexes.get(index, index)
        found.append(((kind, index), is_forward, position, dict(substitution)))
    return found


def _copied_stages(stages, indexes):
    return [(left, right, _copied_steps(steps, indexes)) for left, right, steps in stages]


def _copied_entries(entries):
    return [(_copied_steps(left_steps, {}), _copied_steps(right_steps, {})) for left_steps, right_steps in entries]


def _copied_model(model):
    size, tables = model
    copied = {}
    for name, table in tables.items():
        copied[name] = {key: table[key] for key in table}
    return size, copied


def _copied_certificate(certificate):
    rules, description, reasons, joins, stages, covers = certificate
    return (list(rules), description, list(reasons), _copied_entries(joins),
            [_copied_stages(rows, {}) for rows in stages], _copied_entries(covers))
