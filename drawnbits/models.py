"""Models, which tell the chances of outcomes state by state, and their ways; what both coders share."""

from drawnbits.common import are_integers
from drawnbits.errors import BadModel, BadWay
from drawnbits.tables import is_table


def is_state(thing, many):
    """Whether any value is a state of a model with so many states."""
    if not isinstance(thing, tuple) or len(thing) != 2 or not is_table(thing[0]):
        return False
    return are_integers(thing[1], 0, many - 1) and len(thing[1]) == len(thing[0])


def are_states(thing):
    """Whether any value is a model."""
    if not isinstance(thing, tuple) or thing == () or not all([is_state(state, len(thing)) for state in thing]):
        return False
    return all([len(state[0]) == len(thing[0][0]) for state in thing])


def check_model(model):
    """Raises the error of a value that is no model."""
    if not are_states(model):
        raise BadModel(model)


def is_way_of(model, thing):
    """Whether any value is a way of what is a model."""
    if not are_integers(thing, 0, len(model[0][0]) - 1):
        return False
    at = 0
    for i in thing:
        table, followers = model[at]
        if table[i][0] == 0:
            return False
        at = followers[i]
    return True


def check_way(model, way):
    """Raises the errors of values that are no model and way of it."""
    check_model(model)
    if not is_way_of(model, way):
        raise BadWay(way)


def comings(table):
    """The outcomes of a table that can come, ascending."""
    return [i for i, chance in enumerate(table) if chance[0] > 0]
