"""Bare forms: expressions whose lets have no names, with owns in the place of bound names."""

from likepieces.errors import NoBare
from likepieces.names import fresh_names, owned
from likepieces.trees import NODE, OPENED, built, expression_rule, flat, head, is_tree, is_whole, parts, steps


def is_number(thing):
    """Whether any thing is a number of an own or a hole."""
    return is_whole(thing) and thing >= 0


# Where the nodes of bare forms have another rule than those of expressions.
BARE_RULES = {
    "let": (None, 2, 2),
    "own": (is_number, 0, 0),
    "hole": (is_number, 0, 0),
}


def bare_rule(word):
    """The rule for a bare form's node with this word, or None."""
    return BARE_RULES.get(word, expression_rule(word))


def is_bare(thing):
    """Whether any thing is a bare form."""
    return is_tree(thing, bare_rule)


def loose(b):
    """By how many lets beyond b each loose own would belong, rising, each once."""
    beyond = set()
    level = 0
    for deed, node in steps(b):
        if deed == OPENED:
            level += 1
        elif deed != NODE:
            level -= 1
        elif node[0] == "own" and node[1] >= level:
            beyond.add(node[1] - level)
    return tuple(sorted(beyond))


def bare_head(node, own):
    """The head, in the bare form, of an expression's node with this own_number."""
    if node[0] == "let":
        return ("let",)
    if own >= 0:
        return ("own", own)
    return head(node)


def bare_rows(e):
    """The flat rows of the bare form of e."""
    return [(bare_head(node, own), len(parts(node))) for node, own in owned(e)]


def bare(e):
    """The bare form of e."""
    return built(bare_rows(e))


def same(one, other):
    """Whether two expressions are the same but for bound names."""
    return bare_rows(one) == bare_rows(other)


def named_rows(b, names):
    """The flat rows of the expression whose bare form is b, its lets named by this list in order."""
    rows = []
    left = names[::-1]
    unopened = []
    scope = []
    for deed, node in steps(b):
        if deed == OPENED:
            scope.append(unopened.pop())
        elif deed != NODE:
            scope.pop()
        elif node[0] == "let":
            unopened.append(left.pop())
            rows.append((("let", unopened[-1]), 2))
        elif node[0] == "own":
            rows.append((("name", scope[-1 - node[1]]), 0))
        else:
            rows.append((head(node), len(parts(node))))
    return rows


def named(b, taken):
    """An expression of which b is the bare form, its lets named unlike one another, the free
    names and those taken, or NoBare."""
    heads = [lead for lead, many in flat(b)]
    if loose(b) != () or "hole" in [lead[0] for lead in heads]:
        raise NoBare("a loose own or a hole stands in it")
    free = [lead[1] for lead in heads if lead[0] == "name" or lead[0] == "set"]
    lets = [lead for lead in heads if lead[0] == "let"]
    return built(named_rows(b, fresh_names(len(lets), free + list(taken))))
