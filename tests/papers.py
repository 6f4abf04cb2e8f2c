"""Papers by a random source, and a plain second way to look at them."""

from likepieces.bares import bare
from likepieces.patterns import headed_alike
from likepieces.pieces import local_names, piece_at, places_of
from tests.samples import each_path, kids, plain_bare, replaced, with_kids

PARAMS = ("p", "q", "r", "s", "t", "u")


def is_apart(place, others):
    """Whether the place is none of the others, within none and around none."""
    number, path = place
    for other, way in others:
        short = min(len(path), len(way))
        if number == other and path[:short] == way[:short]:
            return False
    return True


def some_places(rng, program, index, most):
    """Some places in bodies from the index on, apart from one another, of pieces headed alike."""
    least = rng.choice((1, 3, 5))
    pool = [place for place in places_of(program, 1) if place[0] >= index]
    pool = [place for place in pool if len(each_path(piece_at(program, place))) >= least] or pool
    rng.shuffle(pool)
    found = []
    for place in pool:
        forms = tuple(bare(piece_at(program, other)) for other in found + [place])
        if len(found) < most and is_apart(place, found) and headed_alike(forms):
            found.append(place)
    return tuple(found)


def some_pattern(rng, forms, local, loosely):
    """A pattern that the forms share, with what fills its holes in each form: as most_shared tells it, but here
    and there a hole too early, or two holes for one; a name of local ones is a hole."""
    columns = []

    def walk(here):
        first = here[0]
        caught = first[0] == "name" and first[1] in local
        if headed_alike(here) and not caught and rng.random() > loosely:
            inner = list(zip(*[kids(form) for form in here]))
            return with_kids(first, [walk(tuple(column)) for column in inner])
        if here in columns and rng.random() > 0.3:
            return ("hole", columns.index(here))
        columns.append(here)
        return ("hole", len(columns) - 1)

    pattern = walk(tuple(forms))
    order = list(range(len(columns)))
    if rng.random() < 0.3:
        rng.shuffle(order)
    return renumbered(pattern, order), [tuple(columns[order.index(i)][at] for i in range(len(order))) for at in range(len(forms))]


def renumbered(pattern, order):
    """The pattern with hole order[i] in the place of hole i."""
    if pattern[0] == "hole":
        return ("hole", order[pattern[1]])
    return with_kids(pattern, [renumbered(kid, order) for kid in kids(pattern)])


def some_paper(rng, program, most_rows=3):
    """A paper that is perhaps one for the program."""
    index = rng.randint(0, len(program[0]))
    places = some_places(rng, program, index, rng.randint(1, most_rows))
    local = [name for place in places for name in local_names(program, place)]
    forms = [bare(piece_at(program, place)) for place in places]
    pattern, fillings = some_pattern(rng, forms, local, rng.choice((0, 0.1, 0.3)))
    rows = []
    for place, inner in zip(places, fillings):
        rows.append((place, inner, tuple(rng.choice(("still", "once")) for b in inner)))
    return (index, "new", PARAMS[:len(fillings[0])], pattern, tuple(rows))


def calls_of(b):
    """The names of the functions that are called in a bare form."""
    return [node[1] for path, node in each_path(b) if node[0] == "call"]


def plain_traits(program, b, held):
    """The traits, by recursion into the functions that are called."""
    nodes = [node for path, node in each_path(b)]
    reads = {node[1] for node in nodes if node[0] == "name" and node[1] not in held}
    changes = {node[1] for node in nodes if node[0] == "set"}
    words = [node[0] for node in nodes]
    quotients = [node for node in nodes if node[:2] == ("op", "/")]
    flags = ["say" in words, "take" in words,
             "take" in words or any(not (by[0] == "num" and by[1] >= 1) for word, sign, a, by in quotients)]
    for name in calls_of(b):
        params, body = {f[0]: f[1:] for f in program[0]}[name]
        told = plain_traits(program, plain_bare(body), params)
        reads.update(told[0])
        changes.update(told[1])
        flags = [one or other for one, other in zip(flags, told[2:])]
    return (tuple(sorted(reads)), tuple(sorted(changes))) + tuple(flags)


def plain_once(pattern, i):
    """Whether hole i stands once for all."""
    found = [path for path, node in each_path(pattern) if node == ("hole", i)]
    if len(found) != 1:
        return False
    nodes = dict(each_path(pattern))
    for at, part in enumerate(found[0]):
        word = nodes[found[0][:at]][0]
        if word == "again" or (word == "pick" and part != 0):
            return False
    return True


def plain_ahead(program, pattern, i):
    """The traits of what lies ahead of hole i: of all pieces whose path is a beginning of the hole's way but for its
    last number, which is less."""
    way = [path for path, node in each_path(pattern) if node == ("hole", i)][0]
    left = [b for path, b in each_path(pattern)
            if path and path[:-1] == way[:len(path) - 1] and len(path) <= len(way) and path[-1] < way[len(path) - 1]]
    return plain_traits(program, ("do",) + tuple(left), ())


def plain_filled(pattern, fillings):
    """The pattern with the fillings in the place of its holes."""
    if pattern[0] == "hole":
        return fillings[pattern[1]]
    return with_kids(pattern, [plain_filled(kid, fillings) for kid in kids(pattern)])


def plain_apart(one, other):
    """Whether two traits are apart, by the words."""
    if set(one[1]) & set(other[0] + other[1]) or set(other[1]) & set(one[0] + one[1]):
        return False
    quiet = [traits[1:] == ((), False, False, False) for traits in (one, other)]
    return not (one[2] and other[2] or one[3] and other[3] or one[4] and not quiet[1] or other[4] and not quiet[0])


def hole_word(program, pattern, told, ways, i):
    """The word by which hole i of a row is not right, or None; told are the traits of the fillings."""
    if ways[i] == "still":
        changed = set(plain_traits(program, pattern, ())[1])
        for j, one in enumerate(told):
            changed |= set(one[1]) if j != i else set()
        still = told[i][1:] == ((), False, False, False) and not changed & set(told[i][0])
        return None if still else "still"
    if not plain_once(pattern, i):
        return "once"
    order = [node[1] for path, node in each_path(pattern) if node[0] == "hole"]
    if any(ways[j] == "once" and order.index(j) > order.index(i) for j in range(i)):
        return "order"
    return None if plain_apart(told[i], plain_ahead(program, pattern, i)) else "clash"


def row_word(program, paper, at):
    """The word and the hole by which row number at is not right, or None."""
    index, name, params, pattern, rows = paper
    place, fillings, ways = rows[at]
    if place not in places_of(program, 1) or place[0] < index or not is_apart(place, [row[0] for row in rows[:at]]):
        return ("place", -1)
    local = local_names(program, place)
    if any(node[0] == "name" and node[1] in local for path, node in each_path(pattern)):
        return ("local", -1)
    if plain_bare(piece_at(program, place)) != plain_filled(pattern, fillings):
        return ("piece", -1)
    told = [plain_traits(program, b, local) for b in fillings]
    for i in range(len(fillings)):
        word = hole_word(program, pattern, told, ways, i)
        if word:
            return (word, i)
    return None


def plain_refusal(program, paper):
    """The word, row and hole by which a tuple as papers are is refused, or None."""
    index, name, params, pattern, rows = paper
    functions = program[0]
    if name in [function[0] for function in functions]:
        return ("name", -1, -1)
    nodes = [node for path, node in each_path(pattern)]
    for k, param in enumerate(params):
        if param in params[:k] or param in [node[1] for node in nodes if node[0] in ("name", "set")]:
            return ("param", -1, k)
    counts = [(name, len(params)) for name, params, body in functions[:max(index, 0)]]
    if index < 0 or index > len(functions):
        return ("index", -1, -1)
    if any(node[0] == "call" and (node[1], len(kids(node))) not in counts for node in nodes):
        return ("index", -1, -1)
    for at in range(len(rows)):
        found = row_word(program, paper, at)
        if found:
            return (found[0], at, found[1])
    return None


def changed_row(rng, program, row):
    """A row of a paper with one thing changed."""
    place, fillings, ways = row
    at = rng.randint(0, max(len(fillings) - 1, 0))
    choice = rng.randint(0, 3)
    if choice == 0:
        return (rng.choice(places_of(program, 1)), fillings, ways)
    if choice == 1 and fillings:
        other = plain_bare(piece_at(program, rng.choice(places_of(program, 1))))
        return (place, fillings[:at] + (other,) + fillings[at + 1:], ways)
    if choice == 2 and fillings:
        return (place, fillings, ways[:at] + ({"still": "once", "once": "still"}[ways[at]],) + ways[at + 1:])
    return ((place[0], place[1] + (rng.randint(-1, 2),)), fillings, ways)


def changed_paper(rng, program, paper):
    """A paper with one thing changed: what comes is a tuple as papers are, but perhaps none for the program."""
    index, name, params, pattern, rows = paper
    choice = rng.randint(0, 6)
    at = rng.randint(0, len(rows) - 1)
    if choice == 0:
        return (rng.randint(-1, len(program[0]) + 1), name, params, pattern, rows)
    if choice == 1:
        return (index, rng.choice(("f", "g", "h", "new")), params, pattern, rows)
    if choice == 2 and params:
        k = rng.randint(0, len(params) - 1)
        return (index, name, params[:k] + (rng.choice(("p", "q", "a", "x", "y")),) + params[k + 1:], pattern, rows)
    if choice == 3:
        found = [(path, node) for path, node in each_path(pattern) if node[0] in ("name", "num")]
        if found:
            path, node = rng.choice(found)
            return (index, name, params, replaced(pattern, path, ("name", rng.choice(("a", "x", "y")))), rows)
    if choice == 4:
        return (index, name, params, pattern, rows + (rng.choice(rows),))
    if choice == 5:
        return (index, name, params, pattern, tuple(rng.sample(rows, rng.randint(0, len(rows)))))
    return (index, name, params, pattern, rows[:at] + (changed_row(rng, program, rows[at]),) + rows[at + 1:])
