"""Programs: a few functions and a main, and how much work they are."""

from likepieces.trees import flat, is_expression, is_name

MOST_PARAMS = 6


def calls_right(e, counts):
    """Whether each call in e is of a name among the counts, with as many parts as are told there."""
    calls = [(lead[1], many) for lead, many in flat(e) if lead[0] == "call"]
    return all([counts.get(name, -1) == many for name, many in calls])


def is_params(thing):
    """Whether any thing is a tuple of params."""
    if not isinstance(thing, tuple) or len(thing) > MOST_PARAMS or not all([is_name(name) for name in thing]):
        return False
    return len(set(thing)) == len(thing)


def is_function(thing, counts):
    """Whether any thing is a function behind those whose counts of params are told."""
    if not isinstance(thing, tuple) or len(thing) != 3:
        return False
    name, params, body = thing
    if not is_name(name) or name in counts or not is_params(params) or not is_expression(body):
        return False
    sets = [lead[1] for lead, many in flat(body) if lead[0] == "set"]
    return calls_right(body, counts) and not any([param in sets for param in params])


def is_program(thing):
    """Whether any thing is a program."""
    if not isinstance(thing, tuple) or len(thing) != 2 or not isinstance(thing[0], tuple):
        return False
    functions, main = thing
    counts = {}
    for function in functions:
        if not is_function(function, counts):
            return False
        counts[function[0]] = len(function[1])
    return is_expression(main) and calls_right(main, counts)


def bodies(program):
    """The bodies of the program's functions in order, main's last."""
    functions, main = program
    return tuple([body for name, params, body in functions] + [main])


def node_work(lead, inner, works):
    """The work of a node with this head, its parts' being inner; works are those of the functions' bodies."""
    if lead[0] == "again":
        return 1 + lead[1] * inner
    if lead[0] == "call":
        return 1 + inner + works[lead[1]]
    return 1 + inner


def expression_work(e, works):
    """The work of e by the works of the functions' bodies."""
    done = []
    for lead, many in reversed(flat(e)):
        start = len(done) - many
        inner = sum(done[start:])
        del done[start:]
        done.append(node_work(lead, inner, works))
    return done[0]


def work(program):
    """The work of the program."""
    functions, main = program
    works = {}
    for name, params, body in functions:
        works[name] = expression_work(body, works)
    return expression_work(main, works)
