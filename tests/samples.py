"""What the tests share: samples of trees, and plain second ways to reckon what is told of them."""

import random

from likepieces.trees import is_expression

WORDS = ("num", "name", "op", "pick", "let", "set", "say", "take", "do", "again", "call", "own", "hole")
NAMES = ("a", "b", "x", "y", "total")
SIGNS = "+-*/<="

ONE = ("num", 1)
X = ("name", "x")
Y = ("name", "y")

# One right expression for each of the eleven words.
OF_EVERY_WORD = {
    "num": ("num", 7),
    "name": ("name", "x"),
    "op": ("op", "+", ONE, X),
    "pick": ("pick", X, ONE, Y),
    "let": ("let", "x", ONE, X),
    "set": ("set", "x", ONE),
    "say": ("say", X),
    "take": ("take",),
    "do": ("do", ONE, X, Y),
    "again": ("again", 3, X),
    "call": ("call", "f", ONE, X),
}

# Things that are no name, no expression, no bare form, no program.
NO_TREES = (
    None, True, False, 0, 1, -1, 10 ** 59, "", "x", "num", "take", (), [], ("",), (None,), (True,), (1,), ((),),
    ([],), ("num",), ["num", 1], ("take", "take"), (("take",),), [("take",)], ("nix",), ("nix", 1), ("x", 1),
    (["num"], 1), (("num",), 1), (("take",), ("take",)), ("Num", 1), ("num ", 1), ("free", 0), ("num", "1"),
)


def nested(thing, many):
    """Any thing within so many tuples and lists, in turn."""
    for at in range(many):
        thing = (thing,) if at % 2 else [thing]
    return thing


def chain(many):
    """A do within a do, so many of them, round a name."""
    e = ("name", "x")
    for at in range(many):
        e = ("do", e)
    return e


def let_chain(many):
    """A let of x within the second part of a let of x, so many of them."""
    e = ("name", "x")
    for at in range(many):
        e = ("let", "x", ("name", "x"), e)
    return e


def kids(node):
    """A node's parts by its word, of expressions, bare forms and shapes alike."""
    word = node[0]
    if word in ("num", "name", "take", "own", "hole", "free"):
        return ()
    if word == "let":
        return node[-2:]
    if word in ("op", "set", "again", "call"):
        return node[2:]
    return node[1:]


def with_kids(node, others):
    """The node with other parts."""
    return node[: len(node) - len(kids(node))] + tuple(others)


def each_path(e, path=()):
    """All paths of e in order, each beside its piece."""
    told = [(path, e)]
    for at, kid in enumerate(kids(e)):
        told.extend(each_path(kid, path + (at,)))
    return told


def plain_bare(e, lets=()):
    """The bare form, by recursion; lets are those that bind here, the nearest first."""
    if e[0] == "name" and e[1] in lets:
        return ("own", lets.index(e[1]))
    if e[0] == "let":
        return ("let", plain_bare(e[2], lets), plain_bare(e[3], (e[1],) + lets))
    return with_kids(e, [plain_bare(kid, lets) for kid in kids(e)])


def renamed_bare(b, table):
    """A bare form with the names of its names and sets exchanged by a dict."""
    inner = [renamed_bare(kid, table) for kid in kids(b)]
    if b[0] in ("name", "set"):
        b = (b[0], table.get(b[1], b[1])) + b[2:]
    return with_kids(b, inner)


def plain_free(e):
    """The free names of e, out of its bare form, in which no other names of such nodes stand."""
    told = []
    for path, node in each_path(plain_bare(e)):
        if node[0] in ("name", "set") and node[1] not in told:
            told.append(node[1])
    return tuple(told)


def let_list(e):
    """The names of all lets of e."""
    return [node[1] for path, node in each_path(e) if node[0] == "let"]


def some_expression(rng, most_deep, names=NAMES, lets=()):
    """An expression by a random source, at most so deep; lets are the names bound here."""
    word = rng.choice(("num", "name", "name", "take", "call"))
    if most_deep > 1:
        word = rng.choice(("name", "num", "op", "op", "pick", "let", "let", "let", "set", "say", "do", "again", "call"))

    def inner(bound=lets):
        return some_expression(rng, most_deep - 1, names, bound)

    if word == "set" and set(names) <= set(lets):
        word = "say"
    if word == "num":
        return ("num", rng.choice((0, 1, 2, 999999999)))
    if word == "name":
        return ("name", rng.choice(names))
    if word == "op":
        return ("op", rng.choice(SIGNS), inner(), inner())
    if word == "pick":
        return ("pick", inner(), inner(), inner())
    if word == "let":
        x = rng.choice(names)
        return ("let", x, inner(), inner(lets + (x,)))
    if word == "set":
        return ("set", rng.choice([x for x in names if x not in lets]), inner())
    if word == "say":
        return ("say", inner())
    if word == "take":
        return ("take",)
    if word == "do":
        return ("do",) + tuple(inner() for at in range(rng.randint(1, 6 if most_deep < 3 else 3)))
    if word == "again":
        return ("again", rng.randint(0, 5), inner())
    many = rng.randint(0, 3) if most_deep > 1 else 0
    return ("call", rng.choice(("f", "g", "x"))) + tuple(inner() for at in range(many))


def some_expressions(seed, many, most_deep=5, names=NAMES):
    """So many expressions, always the same ones for a seed."""
    rng = random.Random(seed)
    return [some_expression(rng, rng.randint(1, most_deep), names) for at in range(many)]


def fits_body(e, params, counts):
    """Whether e, an expression, may stand as a body of a function with these params, behind functions
    whose counts of params are told."""
    for path, node in each_path(e):
        if node[0] == "call" and counts.get(node[1], -1) != len(kids(node)):
            return False
        if node[0] == "set" and node[1] in params:
            return False
    return True


def mended(rng, e, counts):
    """The expression with calls of the functions whose counts of params are told alone."""
    inner = [mended(rng, kid, counts) for kid in kids(e)]
    if e[0] != "call":
        return with_kids(e, inner)
    if not counts:
        return ("do",) + tuple(inner) if inner else ("take",)
    name = rng.choice(sorted(counts))
    inner = (inner + [("num", at) for at in range(6)])[:counts[name]]
    return ("call", name) + tuple(inner)


def with_copy(rng, e, params):
    """The expression with a copy of one of its pieces, some names exchanged, in the place of another one,
    where that is an expression that sets no param."""
    path, old = rng.choice(each_path(e))
    other, new = rng.choice([row for row in each_path(e) if row[1][0] not in ("num", "name", "take")] or [((), e)])
    names = dict(zip(NAMES, rng.sample(NAMES, len(NAMES)))) if rng.random() < 0.5 else {}
    found = replaced(e, path, renamed_all(new, names))
    fits = is_expression(found) and len(each_path(found)) <= 60
    return found if fits and all(node[1] not in params for way, node in each_path(found) if node[0] == "set") else e


def renamed_all(e, table):
    """The expression with the names of its names, sets and lets exchanged by a dict."""
    inner = [renamed_all(kid, table) for kid in kids(e)]
    if e[0] in ("name", "set", "let"):
        e = (e[0], table.get(e[1], e[1])) + e[2:]
    return with_kids(e, inner)


def replaced(e, path, other):
    """The expression with another one at the path."""
    if path == ():
        return other
    inner = list(kids(e))
    inner[path[0]] = replaced(inner[path[0]], path[1:], other)
    return with_kids(e, inner)


def some_program(rng, most_functions=3, most_deep=4, copies=4, names=NAMES):
    """A program by a random source, in which pieces are copied, their names exchanged or not."""
    functions = []
    counts = {}
    for name in ("f", "g", "h", None)[3 - rng.randint(0, most_functions):]:
        params = tuple(rng.sample(names[:-1], rng.randint(0, min(3, len(names) - 1)))) if name else ()
        while True:
            body = mended(rng, some_expression(rng, rng.randint(2, most_deep), names), counts)
            if fits_body(body, params, counts):
                break
        for at in range(rng.randint(0, copies)):
            body = with_copy(rng, body, params)
        if name is None:
            return (tuple(functions), body)
        functions.append((name, params, body))
        counts[name] = len(params)


def some_programs(seed, many, most_functions=3, most_deep=4, copies=4, names=NAMES):
    """So many programs, always the same ones for a seed."""
    rng = random.Random(seed)
    return [some_program(rng, most_functions, most_deep, copies, names) for at in range(many)]


def refusal(test, kind, deed, *things):
    """The error of just this class with which the deed refuses the things."""
    with test.assertRaises(kind) as kept:
        deed(*things)
    test.assertIs(type(kept.exception), kind)
    return kept.exception
