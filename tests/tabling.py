"""Plain second ways to reckon tables, growth and marks."""

from likepieces.pieces import piece_at
from tests.samples import each_path, kids, plain_bare, plain_free, with_kids


def plain_shape(e):
    """The shape by recursion over the bare form."""
    free = plain_free(e)

    def numbered(b):
        inner = [numbered(kid) for kid in kids(b)]
        if b[0] == "name":
            return ("free", free.index(b[1]))
        if b[0] == "set":
            return ("set", free.index(b[1]), inner[0])
        return with_kids(b, inner)

    return numbered(plain_bare(e))


def plain_table(program, least):
    """The table, by a look through all pieces for each of them."""
    bodies = [function[2] for function in program[0]] + [program[1]]
    pieces = [((number, path), plain_shape(e)) for number, body in enumerate(bodies) for path, e in each_path(body)
              if len(each_path(e)) >= least]
    told = []
    for place, shape in pieces:
        if shape not in [row[0] for row in told]:
            told.append((shape, tuple(sorted(other for other, another in pieces if another == shape))))
    return tuple(told)


def grows_by(program, places, c):
    """Whether a group grows by c, as the words have it."""
    if not all(path[-1:] == (c,) for number, path in places):
        return False
    outer = [piece_at(program, (number, path[:-1])) for number, path in places]
    return all(plain_shape(e) == plain_shape(outer[0]) for e in outer)


def is_right(program, rows, at, mark):
    """Whether the mark is right for the row with this number, as the words have it."""
    places = rows[at][1]
    if mark == ("one",) or len(places) == 1:
        return mark == ("one",) and len(places) == 1
    if mark[0] == "grows":
        word, c, r = mark
        outer = sorted((number, path[:-1]) for number, path in places)
        return grows_by(program, places, c) and outer == sorted(rows[r][1])
    if mark[0] == "body":
        return len(mark) == 2 and 0 <= mark[1] and places[mark[1]][1] == ()
    word, i, j = mark
    one, other = places[i], places[j]
    if i < 0 or j < 0 or one[1] == () or other[1] == ():
        return False
    if word == "parts":
        return one[1][-1] != other[1][-1]
    outer = [plain_shape(piece_at(program, (number, path[:-1]))) for number, path in (one, other)]
    return word == "around" and one[1][-1] == other[1][-1] and outer[0] != outer[1]
