"""Pieces of a program: its places, what stands there, and which names are local there."""

from likepieces.errors import NoPlace
from likepieces.names import bound_at
from likepieces.programs import bodies
from likepieces.trees import flat, is_whole, paths, way


def place_way(program, place):
    """The nodes from the body of the place, any thing, to the piece, both with it, or NoPlace."""
    if not isinstance(place, tuple) or len(place) != 2:
        raise NoPlace(place)
    number, path = place
    trees = bodies(program)
    if not is_whole(number) or not 0 <= number < len(trees) or not isinstance(path, tuple):
        raise NoPlace(place)
    try:
        return way(trees[number], path)
    except NoPlace:
        raise NoPlace(place) from None


def is_place(program, thing):
    """Whether any thing is a place of the program."""
    try:
        place_way(program, thing)
    except NoPlace:
        return False
    return True


def piece_at(program, place):
    """The piece at the place, or NoPlace."""
    return place_way(program, place)[-1]


def local_names(program, place):
    """The names that are local at the place, sorted, each once, or NoPlace."""
    body = place_way(program, place)[0]
    functions = program[0]
    number, path = place
    params = functions[number][1] if number < len(functions) else ()
    return tuple(sorted(set(params + bound_at(body, path))))


def around(place):
    """The place of which this one, whose path isn't (), is a part."""
    number, path = place
    return (number, path[:-1])


def lies_in(place, other):
    """Whether the place is the other one or lies within it."""
    return place[0] == other[0] and place[1][:len(other[1])] == other[1]


def node_counts(e):
    """How many nodes each piece of e has, in the order of their paths."""
    counts = []
    done = []
    for lead, many in reversed(flat(e)):
        start = len(done) - many
        count = 1 + sum(done[start:])
        del done[start:]
        done.append(count)
        counts.append(count)
    return counts[::-1]


def places_of(program, least):
    """All places of pieces with so many nodes or more, in order."""
    told = []
    for number, body in enumerate(bodies(program)):
        counts = node_counts(body)
        told.extend([(number, path) for path, many in zip(paths(body), counts) if many >= least])
    return tuple(told)
