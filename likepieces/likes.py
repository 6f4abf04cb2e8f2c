"""Likeness: expressions that are the same but for the names of lets and boxes."""

from likepieces.bares import bare_head
from likepieces.names import free_names, owned
from likepieces.trees import built, parts


def shape_head(node, own, numbers):
    """The head, in the shape, of an expression's node, its free names being numbered so."""
    if node[0] == "set":
        return ("set", numbers[node[1]])
    if node[0] == "name" and own < 0:
        return ("free", numbers[node[1]])
    return bare_head(node, own)


def shape_rows(e):
    """The flat rows of the shape of e."""
    numbers = {name: at for at, name in enumerate(free_names(e))}
    return [(shape_head(node, own, numbers), len(parts(node))) for node, own in owned(e)]


def shape(e):
    """The shape of e."""
    return built(shape_rows(e))


def alike(one, other):
    """The pairs of free names by which the one becomes the other one but for bound names, or None."""
    if shape_rows(one) != shape_rows(other):
        return None
    return tuple(zip(free_names(one), free_names(other)))
