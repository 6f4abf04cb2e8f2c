"""Tables: all pieces of a program beside those that are alike to them, and which groups grow."""

from likepieces.likes import shape_rows
from likepieces.pieces import around, piece_at, places_of
from likepieces.trees import built


def gathered(program, least):
    """For each shape, as a tuple of flat rows, the list of its places, as a dict in order."""
    found = {}
    for place in places_of(program, least):
        rows = tuple(shape_rows(piece_at(program, place)))
        found.setdefault(rows, []).append(place)
    return found


def table(program, least):
    """The rows (shape, places) of all pieces with so many nodes or more."""
    found = gathered(program, least)
    return tuple([(built(rows), tuple(found[rows])) for rows in found])


def mark(places, row_of):
    """A mark of the row with these places; row_of tells for each place the number of its row."""
    if len(places) == 1:
        return ("one",)
    ways = [path for number, path in places]
    if () in ways:
        return ("body", ways.index(()))
    ends = [path[-1] for path in ways]
    outer = [row_of[around(place)] for place in places]
    for at in range(len(places)):
        if ends[at] != ends[0]:
            return ("parts", 0, at)
    for at in range(len(places)):
        if outer[at] != outer[0]:
            return ("around", 0, at)
    return ("grows", ends[0], outer[0])


def marked(program, least):
    """The rows of the table in order, each as a pair of its places, a list, and its mark."""
    found = gathered(program, least)
    rows = [found[shape] for shape in found]
    row_of = {place: at for at, places in enumerate(rows) for place in places}
    return [(places, mark(places, row_of)) for places in rows]


def great(program, least):
    """The great groups, tuples of places, in the table's order."""
    rows = marked(program, least)
    return tuple([tuple(places) for places, sign in rows if sign[0] != "one" and sign[0] != "grows"])


def marks(program, least):
    """Marks of the table, one for each row."""
    return tuple([sign for places, sign in marked(program, least)])
