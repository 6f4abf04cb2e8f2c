"""Traits: what is read, changed, said, taken and can fail where a bare form is done.

Traits are a tuple (reads, changes, says, takes, fails).
"""

from likepieces.bares import bare
from likepieces.trees import NODE, flat, parts, paths, steps, way

NOTHING = ((), (), False, False, False)


def names_together(rows):
    """The names of all these tuples, sorted, each once."""
    return tuple(sorted({name for row in rows for name in row}))


def together(rows):
    """The traits that have what one of these traits has."""
    reads = names_together([one[0] for one in rows])
    changes = names_together([one[1] for one in rows])
    return (reads, changes, any([one[2] for one in rows]), any([one[3] for one in rows]), any([one[4] for one in rows]))


def node_traits(known, node, held):
    """The traits of a node without those of its parts; known are those of the functions' bodies."""
    word = node[0]
    if word == "name" and node[1] not in held:
        return ((node[1],), (), False, False, False)
    if word == "set":
        return ((), (node[1],), False, False, False)
    if word == "say":
        return ((), (), True, False, False)
    if word == "take":
        return ((), (), False, True, True)
    if word == "op" and node[1] == "/":
        by = node[3]
        return ((), (), False, False, by[0] != "num" or by[1] == 0)
    if word == "call":
        return known[node[1]]
    return NOTHING


def form_traits(known, b, held):
    """The traits of a bare form; known are those of the functions' bodies."""
    return together([node_traits(known, node, held) for deed, node in steps(b) if deed == NODE])


def known_traits(program):
    """For each function's name the traits of its body, its params held, as a dict."""
    known = {}
    for name, params, body in program[0]:
        known[name] = form_traits(known, bare(body), params)
    return known


def traits(program, b, held):
    """The traits of a bare form by a program and a tuple of names that are held."""
    return form_traits(known_traits(program), b, held)


def is_quiet(one):
    """Whether a bare form with these traits is quiet."""
    reads, changes, says, takes, fails = one
    return changes == () and not says and not takes and not fails


def leaves_alone(one, other):
    """Whether what the one changes is nothing of the other's, and the other one is quiet where the one fails."""
    changed = [name for name in one[1] if name in other[0] or name in other[1]]
    return changed == [] and (not one[4] or is_quiet(other))


def are_apart(one, other):
    """Whether two traits are apart."""
    if (one[2] and other[2]) or (one[3] and other[3]):
        return False
    return leaves_alone(one, other) and leaves_alone(other, one)


def hole_paths(pattern, i):
    """The paths of all holes of this number, in order."""
    return [path for path, row in zip(paths(pattern), flat(pattern)) if row[0] == ("hole", i)]


def stands_once(pattern, i):
    """Whether hole i of the pattern stands once for all."""
    found = hole_paths(pattern, i)
    if len(found) != 1:
        return False
    path = found[0]
    around = list(zip(way(pattern, path), path))
    return not any([node[0] == "again" or (node[0] == "pick" and at > 0) for node, at in around])


def traits_ahead(known, pattern, i):
    """The traits of what lies ahead of a hole that stands once for all; known are those of the functions' bodies."""
    path = hole_paths(pattern, i)[0]
    rows = []
    for node, at in zip(way(pattern, path), path):
        rows.extend([form_traits(known, part, ()) for part in parts(node)[:at]])
    return together(rows)


def ahead_of(program, pattern, i):
    """The traits of all that lies ahead of a hole that stands once for all, together."""
    return traits_ahead(known_traits(program), pattern, i)
