"""Puts: the program with one function in the place of pieces, by a paper that is let by."""

from likepieces.bares import named
from likepieces.patterns import filled
from likepieces.programs import bodies
from likepieces.trees import with_piece


def function_of(paper):
    """The new function: its body is the pattern with the params in the place of the holes."""
    index, name, params, pattern, rows = paper
    inner = tuple([("name", param) for param in params])
    return (name, params, named(filled(pattern, inner), ()))


def call_of(paper, row):
    """The call of the new function that stands in the place of a row's piece."""
    return ("call", paper[1]) + tuple([named(filling, ()) for filling in row[1]])


def put(program, paper):
    """The program with the paper's function put in, and a call of it in the place of each piece."""
    trees = list(bodies(program))
    for row in paper[4]:
        number, path = row[0]
        trees[number] = with_piece(trees[number], path, call_of(paper, row))
    functions = [(name, params, body) for (name, params, old), body in zip(program[0], trees)]
    index = paper[0]
    return (tuple(functions[:index] + [function_of(paper)] + functions[index:]), trees[-1])
