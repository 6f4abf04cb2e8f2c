"""Renaming: the names of a program's boxes, and the program with others."""

from likepieces.names import boxes_in, exchange_of, with_boxes


def box_names(program):
    """The names of all boxes of the program, sorted, each once."""
    functions, main = program
    scopes = [(params, body) for name, params, body in functions] + [((), main)]
    return tuple(sorted({box for params, body in scopes for box in boxes_in(params, body)}))


def renamed(params, body, become):
    """The params and the body of a function with its boxes' names exchanged as this dict tells."""
    return with_boxes(params, body, become, [become[box] for box in boxes_in(params, body)])


def exchanged_program(program, pairs):
    """A program like this one, but its boxes' names exchanged by the pairs, or NoExchange."""
    become = exchange_of(box_names(program), pairs)
    functions = [(name,) + renamed(params, body, become) for name, params, body in program[0]]
    params, main = renamed((), program[1], become)
    return (tuple(functions), main)
