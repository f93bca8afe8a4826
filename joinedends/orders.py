"""Orders from their descriptions."""

from joinedends.errors import InvalidOrder
from joinedends.pathorder import PathOrder
from joinedends.polynomialorder import PolynomialOrder
from joinedends.weightorder import WeightOrder


def make_order(signature, description):
    """Return the order object for a description."""
    word = description[0]
    entries = description[1:]
    if word == "path" and len(entries) == 0:
        return PathOrder(signature)
    if word == "weight" and len(entries) == 2:
        weights, variable_weight = entries
        if isinstance(weights, dict) and isinstance(variable_weight, int):
            return WeightOrder(signature, weights, variable_weight)
    if word == "polynomial" and len(entries) == 1:
        table = entries[0]
        if isinstance(table, dict):
            return PolynomialOrder(signature, table)
    raise InvalidOrder()
