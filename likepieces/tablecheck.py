"""The checker of tables: whether any thing is a table and marks of a program."""

from likepieces.errors import NoTable
from likepieces.likes import shape, shape_rows
from likepieces.pieces import around, is_place, piece_at, places_of
from likepieces.trees import is_whole, nodes


def is_row(thing):
    """Whether any thing is a pair of any thing and a tuple."""
    return isinstance(thing, tuple) and len(thing) == 2 and isinstance(thing[1], tuple)


def is_rows_and_marks(thing):
    """Whether any thing is a pair of tuples, the first one of rows."""
    return is_row(thing) and isinstance(thing[0], tuple) and all([is_row(row) for row in thing[0]])


def is_same_tree(thing, tree):
    """Whether any thing is just this tree; True is no 1, though Python holds them equal."""
    waiting = [(thing, tree)]
    while waiting:
        one, other = waiting.pop()
        if isinstance(one, tuple) and isinstance(other, tuple) and len(one) == len(other):
            waiting.extend(list(zip(one, other)))
        elif isinstance(one, bool) or isinstance(one, tuple) or one != other:
            return False
    return True


def has_right_places(program, least, row):
    """Whether all in the row's places are places, each once, of pieces so great and of the row's shape."""
    told, places = row
    seen = {}
    for place in places:
        if not is_place(program, place) or place in seen:
            return False
        e = piece_at(program, place)
        if nodes(e) < least or not is_same_tree(told, shape(e)):
            return False
        seen[place] = True
    return True


def check_rows(program, least, rows):
    """NoTable where a row's places, its shape or that it has no place are not right."""
    ahead = {}
    for number, row in enumerate(rows):
        if not has_right_places(program, least, row):
            raise NoTable("place", number)
        places = row[1]
        if len(places) == 0:
            raise NoTable("row", number)
        told = tuple(shape_rows(piece_at(program, places[0])))
        if told in ahead:
            raise NoTable("row", number)
        ahead[told] = True


def are_numbers_of(numbers, many, places):
    """Whether these things are so many numbers of places."""
    return len(numbers) == many and all([is_whole(at) and 0 <= at < len(places) for at in numbers])


def is_growth(numbers, places, row_of):
    """Whether the group grows by the first number, the places around being the row of the second one."""
    if len(numbers) != 2 or not is_whole(numbers[0]) or not is_whole(numbers[1]):
        return False
    part, outer = numbers
    return all([place[1][-1:] == (part,) and row_of[around(place)] == outer for place in places])


def is_body(numbers, places, row_of):
    """Whether the place of this number is a whole body."""
    return are_numbers_of(numbers, 1, places) and places[numbers[0]][1] == ()


def has_unlike_ends(numbers, places, row_of):
    """Whether the paths of these two places end in unlike numbers."""
    if not are_numbers_of(numbers, 2, places):
        return False
    ends = [places[at][1][-1:] for at in numbers]
    return () not in ends and ends[0] != ends[1]


def has_unlike_around(numbers, places, row_of):
    """Whether the paths of these two places end in like numbers, but the pieces around them are not alike."""
    if not are_numbers_of(numbers, 2, places):
        return False
    one, other = [places[at] for at in numbers]
    ends = one[1][-1:]
    return ends != () and ends == other[1][-1:] and row_of[around(one)] != row_of[around(other)]


MARKS = {
    "grows": is_growth,
    "body": is_body,
    "parts": has_unlike_ends,
    "around": has_unlike_around,
}


def is_mark(thing, places, row_of):
    """Whether any thing is a right mark of the row with these places."""
    if not isinstance(thing, tuple) or len(thing) == 0 or not isinstance(thing[0], str):
        return False
    word, *numbers = thing
    if word == "one":
        return len(numbers) == 0 and len(places) == 1
    if word not in MARKS or len(places) < 2:
        return False
    is_right = MARKS[word]
    return is_right(numbers, places, row_of)


def lets_table(program, least, thing):
    """True where any thing is a table and marks of the program by this least number, or NoTable."""
    if not is_rows_and_marks(thing):
        raise NoTable("shape", 0)
    rows, marks = thing
    check_rows(program, least, rows)
    row_of = {place: number for number, (told, places) in enumerate(rows) for place in places}
    for number, place in enumerate(places_of(program, least)):
        if place not in row_of:
            raise NoTable("lacks", number)
    if len(marks) != len(rows):
        raise NoTable("marks", 0)
    for number, (told, places) in enumerate(rows):
        if not is_mark(marks[number], places, row_of):
            raise NoTable("mark", number)
    return True
