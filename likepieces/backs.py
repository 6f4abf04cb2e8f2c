"""Backs: a function put back in the place of its calls, and programs that are the same but for bound names."""

from likepieces.bares import bare_rows
from likepieces.errors import NoFunction
from likepieces.names import boxes_in, names_within, with_boxes
from likepieces.trees import built, flat


def holed(params, rows):
    """Flat rows of a body no let of which has a param's name, with ("hole", k) in the place of param number k."""
    told = []
    for lead, many in rows:
        is_param = lead[0] == "name" and lead[1] in params
        told.append((("hole", params.index(lead[1])), 0) if is_param else (lead, many))
    return told


def with_bodies(e, name, rows):
    """The expression e with the body of these rows in the place of each call of the name, hole k of it being
    the call's part number k."""
    done = []
    for lead, many in reversed(flat(e)):
        start = len(done) - many
        inner = done[start:][::-1]
        del done[start:]
        if lead == ("call", name):
            done.append(built([(inner[top[1]], 0) if top[0] == "hole" else (top, count) for top, count in rows]))
        else:
            done.append(lead + tuple(inner))
    return done[0]


def without_calls(function, params, body):
    """The params and the body with the function put back in the place of its calls there."""
    name, inner_params, inner_body = function
    if ("call", name) not in [lead for lead, many in flat(body)]:
        return (params, body)
    boxes = boxes_in(inner_params, inner_body)
    told_params, told_body = with_boxes(params, body, {}, boxes)
    # Beneath the function's lets come the calls' parts, in which it may be called, too: so its boxes' names as well.
    avoided = names_within(told_body) + boxes + list(inner_params)
    other_params, other_body = with_boxes(inner_params, inner_body, {}, avoided)
    return (told_params, with_bodies(told_body, name, holed(other_params, flat(other_body))))


def put_back(program, name):
    """The program with the function of this name put back in the place of its calls, or NoFunction."""
    functions, main = program
    found = [function for function in functions if function[0] == name]
    if len(found) == 0:
        raise NoFunction(name)
    left = []
    for other, params, body in functions:
        if other != name:
            left.append((other,) + without_calls(found[0], params, body))
    params, body = without_calls(found[0], (), main)
    return (tuple(left), body)


def scopes(program):
    """For each body, main's last, its function's name, count of params and rows without bound names."""
    functions, main = program
    told = [(name, len(params), holed(params, bare_rows(body))) for name, params, body in functions]
    return told + [("", 0, bare_rows(main))]


def same_program(one, other):
    """Whether two programs are the same but for bound names."""
    return scopes(one) == scopes(other)
