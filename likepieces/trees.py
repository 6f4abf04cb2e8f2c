"""Trees of expressions: what is one, its parts and nodes, the pieces at its paths.

Bare forms and shapes are such trees, too: in all of them a node is a tuple, first what it
has of its own (its head), then its parts, which alone are tuples. Trees that are told here
may be handed in again however deep they are, so nothing walks them by recursion.
"""

from likepieces.errors import NoPlace

WORDS = (
    "num", "name", "op", "pick", "let", "set", "say", "take", "do", "again", "call", "own", "hole",
)
SIGNS = ("+", "-", "*", "/", "<", "=")
LONGEST_NAME = 8
GREATEST_VALUE = 999999999
MOST_TIMES = 5

NODE = "node"
OPENED = "opened"
CLOSED = "closed"


def is_whole(thing):
    """Whether a thing is a whole number: True and False are none."""
    return isinstance(thing, int) and not isinstance(thing, bool)


def is_name(thing):
    """Whether any thing is a name."""
    if not isinstance(thing, str) or not 1 <= len(thing) <= LONGEST_NAME or thing in WORDS:
        return False
    return all(["a" <= sign <= "z" for sign in thing])


def is_value(thing):
    """Whether any thing is a value."""
    return is_whole(thing) and 0 <= thing <= GREATEST_VALUE


def is_sign(thing):
    """Whether any thing is the sign of an op."""
    return isinstance(thing, str) and thing in SIGNS


def is_times(thing):
    """Whether any thing is how often an again does its part."""
    return is_whole(thing) and 0 <= thing <= MOST_TIMES


# For each word what must hold of the field behind it (None: it has none), and the least and
# the greatest count of parts.
RULES = {
    "num": (is_value, 0, 0),
    "name": (is_name, 0, 0),
    "op": (is_sign, 2, 2),
    "pick": (None, 3, 3),
    "let": (is_name, 2, 2),
    "set": (is_name, 1, 1),
    "say": (None, 1, 1),
    "take": (None, 0, 0),
    "do": (None, 1, 6),
    "again": (is_times, 1, 1),
    "call": (is_name, 0, 6),
}


def expression_rule(word):
    """The rule for an expression's node with this word, or None."""
    return RULES.get(word)


def is_node(thing, rule_of):
    """Whether any thing is a node by the rule for its word; of its parts only that they are tuples."""
    if not isinstance(thing, tuple) or len(thing) == 0 or not isinstance(thing[0], str):
        return False
    rule = rule_of(thing[0])
    if rule is None:
        return False
    fits, least, most = rule
    inner = thing[1:]
    if fits is not None:
        if len(inner) == 0 or not fits(inner[0]):
            return False
        inner = inner[1:]
    return least <= len(inner) <= most and all([isinstance(part, tuple) for part in inner])


def is_tree(thing, rule_of):
    """Whether any thing is a tree all of whose nodes are right by the rules."""
    waiting = [thing]
    while waiting:
        node = waiting.pop()
        if not is_node(node, rule_of):
            return False
        waiting.extend(parts(node))
    return True


def sets_bound(e):
    """Whether a set in e has a name that a let of e binds where it stands."""
    lets = {}
    for deed, node in steps(e):
        if deed == OPENED:
            lets[node[1]] = lets.get(node[1], 0) + 1
        elif deed == CLOSED:
            lets[node[1]] -= 1
        elif node[0] == "set" and lets.get(node[1], 0) > 0:
            return True
    return False


def is_expression(thing):
    """Whether any thing is an expression."""
    return is_tree(thing, expression_rule) and not sets_bound(thing)


def head(node):
    """What a node has ahead of its parts."""
    return tuple([field for field in node if not isinstance(field, tuple)])


def parts(e):
    """The parts of e, from left to right."""
    return tuple([part for part in e if isinstance(part, tuple)])


def steps(tree):
    """The walk through a tree: pairs of NODE and a node, in order, and round each let's second
    part OPENED and CLOSED with the let."""
    walk = []
    waiting = [(NODE, tree)]
    while waiting:
        deed, node = waiting.pop()
        walk.append((deed, node))
        if deed == NODE:
            inner = [(NODE, part) for part in parts(node)]
            if node[0] == "let":
                inner = [inner[0], (OPENED, node), inner[1], (CLOSED, node)]
            waiting.extend(inner[::-1])
    return walk


def flat(tree):
    """The nodes of a tree in order, each as a pair of its head and its count of parts.

    Trees are equal where these rows are, and rows are compared, and kept as keys, without
    going down into one another."""
    return [(head(node), len(parts(node))) for deed, node in steps(tree) if deed == NODE]


def built(rows):
    """The tree of which these are the flat rows; a whole tree may stand as the head of a row
    without parts."""
    done = []
    for lead, many in reversed(rows):
        start = len(done) - many
        inner = done[start:]
        del done[start:]
        done.append(lead + tuple(inner[::-1]))
    return done[0]


def nodes(e):
    """How many nodes e has."""
    return len(flat(e))


def deep(e):
    """How deep e is."""
    deepest = 0
    waiting = [(e, 1)]
    while waiting:
        node, level = waiting.pop()
        deepest = max(deepest, level)
        waiting.extend([(part, level + 1) for part in parts(node)])
    return deepest


def paths(e):
    """All paths of e, each ahead of those into it, a part's ahead of the next part's."""
    told = []
    waiting = [(e, ())]
    while waiting:
        node, path = waiting.pop()
        told.append(path)
        inner = [(part, path + (at,)) for at, part in enumerate(parts(node))]
        waiting.extend(inner[::-1])
    return tuple(told)


def way(e, path):
    """The nodes from e to the piece at the path, both with it, or NoPlace."""
    found = [e]
    for at in path:
        inner = parts(found[-1])
        if not is_whole(at) or not 0 <= at < len(inner):
            raise NoPlace(path)
        found.append(inner[at])
    return found


def piece(e, path):
    """The piece of e at the path, or NoPlace."""
    return way(e, path)[-1]


def with_piece(e, path, other):
    """The expression e with another one in the place of the piece at the path, or NoPlace."""
    around = way(e, path)[:-1]
    told = other
    for node, at in reversed(list(zip(around, path))):
        inner = parts(node)
        told = head(node) + inner[:at] + (told,) + inner[at + 1:]
    return told
