"""Plain second ways to reckon patterns at places, answers for them, functions put back and sameness of programs."""

from likepieces.patterns import headed_alike
from likepieces.pieces import local_names, piece_at
from tests.papers import plain_ahead, plain_apart, plain_once, plain_traits
from tests.samples import each_path, kids, plain_bare, with_kids


def bodies(program):
    return [function[2] for function in program[0]] + [program[1]]


def is_closed(b, level=0):
    """Whether no own in b is loose, so many lets being around."""
    if b[0] == "own":
        return b[1] < level
    if b[0] == "let":
        return is_closed(b[1], level) and is_closed(b[2], level + 1)
    return all(is_closed(kid, level) for kid in kids(b))


def is_plainly_still(program, pattern, fillings, held, i):
    """Whether filling i is still, by the words."""
    told = [plain_traits(program, b, held) for b in fillings]
    changed = set(plain_traits(program, pattern, ())[1])
    for j, one in enumerate(told):
        changed |= set(one[1]) if j != i else set()
    return told[i][1:] == ((), False, False, False) and not changed & set(told[i][0])


def plain_pattern(program, places):
    """The pattern at the places and its fillings: first each standing a hole by itself, then those that are one made one."""
    local = {name for place in places for name in local_names(program, place)}
    spots = []

    def walk(here):
        first = here[0]
        if not headed_alike(here) or (first[0] == "name" and first[1] in local):
            spots.append(here)
            return ("hole", len(spots) - 1)
        return with_kids(first, [walk(column) for column in zip(*[kids(form) for form in here])])

    pattern = walk(tuple(plain_bare(piece_at(program, place)) for place in places))
    held = [local_names(program, place) for place in places]
    unlike = [column for at, column in enumerate(spots) if column not in spots[:at]]

    def is_still_everywhere(column):
        rows = [[other[at] for other in unlike] for at in range(len(places))]
        i = unlike.index(column)
        return all(is_plainly_still(program, pattern, row, here, i) for row, here in zip(rows, held))

    kept = [at for at, column in enumerate(spots) if column not in spots[:at] or not is_still_everywhere(column)]

    def numbered(b):
        if b[0] == "hole":
            at = b[1] if b[1] in kept else spots.index(spots[b[1]])
            return ("hole", kept.index(at))
        return with_kids(b, [numbered(kid) for kid in kids(b)])

    return numbered(pattern), tuple(tuple(spots[k][at] for k in kept) for at in range(len(places)))


def plain_answer(program, places):
    """What paper_for tells, but for a put its ways in the place of the paper."""
    pattern, fillings = plain_pattern(program, places)
    many = len({node for path, node in each_path(pattern) if node[0] == "hole"})
    if pattern == ("hole", 0):
        return ("not", "hole", 0, -1)
    if many > 6:
        return ("not", "many", many, -1)
    cells = [(i, at) for i in range(many) for at in range(len(places))]
    held = [local_names(program, place) for place in places]
    moving = [(i, at) for i, at in cells if not is_plainly_still(program, pattern, fillings[at], held[at], i)]
    due = [("bound", cell) for cell in cells if not is_closed(fillings[cell[1]][cell[0]])]
    due += [("once", cell) for cell in moving if not plain_once(pattern, cell[0])]
    if not due:
        for i, at in moving:
            if not plain_apart(plain_traits(program, fillings[at][i], held[at]), plain_ahead(program, pattern, i)):
                due.append(("clash", (i, at)))
    if due:
        return ("not", due[0][0]) + due[0][1]
    return ("put", tuple(tuple("once" if (i, at) in moving else "still" for i in range(many)) for at in range(len(places))))


def shifted(b, by, level=0):
    """A bare form with its loose owns belonging by so many lets further out."""
    if b[0] == "own":
        return ("own", b[1] + by) if b[1] >= level else b
    if b[0] == "let":
        return ("let", shifted(b[1], by, level), shifted(b[2], by, level + 1))
    return with_kids(b, [shifted(kid, by, level) for kid in kids(b)])


def marked(params, body):
    """The bare form of a body with ("hole", k) in the place of param k."""

    def walk(b):
        if b[0] == "name" and b[1] in params:
            return ("hole", params.index(b[1]))
        return with_kids(b, [walk(kid) for kid in kids(b)])

    return walk(plain_bare(body))


def scopes(program):
    """The functions' names, and bodies with neither names of lets nor of params; main's last."""
    return [(name, len(params), marked(params, body)) for name, params, body in program[0]] + [(None, 0, marked((), program[1]))]


def filled_body(body, inner, level=0):
    """A marked body with a call's parts in the place of its params, so many of its lets around."""
    if body[0] == "hole":
        return shifted(inner[body[1]], level)
    if body[0] == "let":
        return ("let", filled_body(body[1], inner, level), filled_body(body[2], inner, level + 1))
    return with_kids(body, [filled_body(kid, inner, level) for kid in kids(body)])


def called_back(b, name, body):
    """A bare form with the marked body in the place of each call of the name, those within others first."""
    inner = [called_back(kid, name, body) for kid in kids(b)]
    return filled_body(body, inner) if b[:2] == ("call", name) else with_kids(b, inner)


def scopes_back(program, name):
    """The scopes of the program with the function put back."""
    body = [told for other, many, told in scopes(program) if other == name][0]
    return [(other, many, called_back(told, name, body)) for other, many, told in scopes(program) if other != name]
