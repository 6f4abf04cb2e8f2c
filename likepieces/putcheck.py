"""The checker of papers: whether any thing is a paper for one function in the place of pieces."""

from likepieces.bares import bare_rows, is_bare, loose
from likepieces.errors import NoPut
from likepieces.patterns import filled, hole_count, is_pattern
from likepieces.pieces import is_place, lies_in, local_names, piece_at
from likepieces.programs import MOST_PARAMS, calls_right
from likepieces.traits import NOTHING, are_apart, form_traits, is_quiet, known_traits, stands_once, traits_ahead
from likepieces.trees import flat, is_name, is_whole

STILL = "still"
ONCE = "once"
NO_NUMBER = -1


class Holes:
    """What is asked of a pattern's holes at each row anew."""

    def __init__(self, known, pattern):
        numbers = list(range(hole_count(pattern)))
        heads = [lead for lead, many in flat(pattern)]
        self.changes = form_traits(known, pattern, ())[1]
        self.spots = [heads.index(("hole", i)) for i in numbers]
        self.once = [stands_once(pattern, i) for i in numbers]
        self.ahead = [traits_ahead(known, pattern, i) if self.once[i] else NOTHING for i in numbers]


def is_filling(thing):
    """Whether any thing is a closed bare form without holes."""
    return is_bare(thing) and loose(thing) == () and hole_count(thing) == 0


def is_paper_row(thing, many):
    """Whether any thing is a row of a paper with so many holes; its place may be any thing."""
    if not isinstance(thing, tuple) or len(thing) != 3:
        return False
    place, fillings, ways = thing
    if not isinstance(fillings, tuple) or not isinstance(ways, tuple) or not len(fillings) == len(ways) == many:
        return False
    return all([is_filling(b) for b in fillings]) and all([told in (STILL, ONCE) for told in ways])


def is_paper(thing):
    """Whether any thing is a tuple as papers are."""
    if not isinstance(thing, tuple) or len(thing) != 5:
        return False
    index, name, params, pattern, rows = thing
    if not is_whole(index) or not is_name(name) or not is_pattern(pattern):
        return False
    many = hole_count(pattern)
    if many > MOST_PARAMS or not isinstance(params, tuple) or not isinstance(rows, tuple) or len(params) != many:
        return False
    return all([is_name(param) for param in params]) and all([is_paper_row(row, many) for row in rows])


def names_in(pattern, words):
    """The names that stand in the pattern's nodes with these words."""
    return [lead[1] for lead, many in flat(pattern) if lead[0] in words]


def wrong_param(params, pattern):
    """The number of the first param that is like one ahead or a name of the pattern, or -1."""
    names = names_in(pattern, ("name", "set"))
    for at, param in enumerate(params):
        if param in params[:at] or param in names:
            return at
    return NO_NUMBER


def is_index(program, index, pattern):
    """Whether a function with the pattern may stand at this index."""
    functions = program[0]
    if not 0 <= index <= len(functions):
        return False
    return calls_right(pattern, {name: len(params) for name, params, body in functions[:index]})


def is_free_place(program, index, ahead, place):
    """Whether any thing is a place behind the index, apart from the places ahead."""
    if not is_place(program, place) or place[0] < index:
        return False
    return not any([lies_in(place, other) or lies_in(other, place) for other in ahead])


def is_still(told, changes, i):
    """Whether filling i is still, told being the traits of all fillings, changes those of the pattern."""
    changed = list(changes)
    # Its own changes may be among them: where it is quiet it has none.
    for one in told:
        changed.extend(one[1])
    return is_quiet(told[i]) and not any([name in changed for name in told[i][0]])


def hole_fault(holes, told, ways, i):
    """The word by which hole i of a row is not right, or the text without signs."""
    if ways[i] == STILL:
        return "" if is_still(told, holes.changes, i) else "still"
    if not holes.once[i]:
        return "once"
    if any([ways[j] == ONCE and holes.spots[j] > holes.spots[i] for j in range(i)]):
        return "order"
    return "" if are_apart(told[i], holes.ahead[i]) else "clash"


def place_fault(program, paper, ahead, row):
    """The word by which a row's place or piece is not right, or the text without signs."""
    index, name, params, pattern, rows = paper
    place, fillings, ways = row
    if not is_free_place(program, index, ahead, place):
        return "place"
    here = local_names(program, place)
    if any([x in here for x in names_in(pattern, ("name",))]):
        return "local"
    if bare_rows(piece_at(program, place)) != flat(filled(pattern, fillings)):
        return "piece"
    return ""


def check_rows(program, paper):
    """NoPut where a row of the paper is not right."""
    known = known_traits(program)
    holes = Holes(known, paper[3])
    ahead = []
    for number, row in enumerate(paper[4]):
        word = place_fault(program, paper, ahead, row)
        if word != "":
            raise NoPut(word, number, NO_NUMBER)
        place, fillings, ways = row
        ahead.append(place)
        here = local_names(program, place)
        told = [form_traits(known, b, here) for b in fillings]
        for i in range(len(fillings)):
            word = hole_fault(holes, told, ways, i)
            if word != "":
                raise NoPut(word, number, i)


def lets_put(program, thing):
    """True where any thing is a paper for the program, or NoPut."""
    if not is_paper(thing):
        raise NoPut("shape", NO_NUMBER, NO_NUMBER)
    index, name, params, pattern, rows = thing
    if name in [function[0] for function in program[0]]:
        raise NoPut("name", NO_NUMBER, NO_NUMBER)
    hole = wrong_param(params, pattern)
    if hole != NO_NUMBER:
        raise NoPut("param", NO_NUMBER, hole)
    if not is_index(program, index, pattern):
        raise NoPut("index", NO_NUMBER, NO_NUMBER)
    check_rows(program, thing)
    return True
