"""Savings: how great a program is, and what one function in the place of pieces saves."""

from likepieces.programs import bodies
from likepieces.puts import put
from likepieces.putting import paper_for
from likepieces.tables import great
from likepieces.trees import nodes


def size(program):
    """How many nodes the program's bodies have, and for each function 1 and how many params it has."""
    return sum([nodes(body) for body in bodies(program)]) + sum([1 + len(function[1]) for function in program[0]])


def saving(program, paper):
    """The size of the program less that of what comes by a paper that is let by."""
    return size(program) - size(put(program, paper))


def offers(program, least):
    """Pairs (saving, places) of all great groups for whose places one function can be put, greater savings first."""
    told = []
    for places in great(program, least):
        answer = paper_for(program, places)
        if answer[0] == "put":
            told.append((saving(program, answer[1]), places))
    return tuple(sorted(told, key=lambda pair: -pair[0]))
