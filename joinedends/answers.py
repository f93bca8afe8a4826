"""Answers to the question whether an equation follows from given equations."""

from joinedends.certificates import accepts, make_certificate
from joinedends.chains import is_derivation
from joinedends.completion import Completion
from joinedends.errors import HallError
from joinedends.ground import Closure
from joinedends.models import find_model, separates
from joinedends.pathorder import PathOrder
from joinedends.rewriting import join
from joinedends.terms import is_ground

SAME = "same"
APART = "apart"
PARTED = "parted"
OPEN = "open"


def answer(signature, given, left, right, *, steps=30, max_size=2, max_models=500):
    """Return the answer to the question, found within the limits."""
    if left == right:
        return (SAME, [(left, right, [])])
    if all([is_ground(side) for equation in [*given, (left, right)] for side in equation]):
        return _ground_answer(signature, given, left, right)
    completion = Completion(PathOrder(signature), given)
    completion.run(steps)
    stages = _derived(completion, left, right)
    if stages is not None:
        return (SAME, stages)
    model = find_model(signature, given, left, right, max_size=max_size, max_models=max_models)
    if model is not None:
        return (APART, model)
    certificate = make_certificate(signature, given, completion)
    if certificate is not None and is_sound(signature, given, left, right, (PARTED, certificate)):
        return (PARTED, certificate)
    return (OPEN,)


def is_sound(signature, given, left, right, answer):
    """Return True if the answer is as it claims to be."""
    word = answer[0]
    if word == SAME:
        return is_derivation(given, left, right, answer[1])
    if word == APART:
        return separates(signature, given, left, right, answer[1])
    if word == PARTED:
        return accepts(signature, given, answer[1]) and _is_parted(answer[1][0], left, right)
    return True


def _ground_answer(signature, given, left, right):
    closure = Closure(given, [left, right])
    stages = closure.derivation(left, right)
    return (APART, closure.model(signature)) if stages is None else (SAME, stages)


def _derived(completion, left, right):
    """Return the derivation by the completion, or None if there is none or an error is raised."""
    try:
        return completion.derive(left, right)
    except HallError:
        return None


def _is_parted(rules, left, right):
    """Return True if the normal forms are computed without an error and differ."""
    try:
        return join(rules, left, right) is None
    except HallError:
        return False
