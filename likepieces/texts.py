"""Texts: expressions and programs written as words."""

from likepieces.trees import head, parts


def node_words(node):
    """The words of a node that stand ahead of its parts, and those behind them."""
    word = node[0]
    fields = [str(field) for field in head(node)]
    if word in ("num", "name"):
        return (fields[1:], [])
    if word == "take":
        return (fields, [])
    if word == "op":
        return (["("] + fields[1:], [")"])
    return (["("] + fields, [")"])


def show(e):
    """The text of an expression."""
    words = []
    waiting = [e]
    while waiting:
        here = waiting.pop()
        if isinstance(here, str):
            words.append(here)
        else:
            ahead, behind = node_words(here)
            words.extend(ahead)
            waiting.extend(behind)
            waiting.extend(parts(here)[::-1])
    return " ".join(words)


def show_program(program):
    """The texts of a program, one for each function, main's last."""
    functions, main = program
    lines = [" ".join((name,) + params + (":", show(body))) for name, params, body in functions]
    return tuple(lines + [show(main)])
