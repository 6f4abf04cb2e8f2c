"""Plain second ways to write texts and to find the first word that can not stand where it does."""

from tests.samples import WORDS, kids

MOST_AROUND = 12
SIGNS = ("+", "-", "*", "/", "<", "=")


def plain_show(e):
    """The text of an expression, by recursion."""
    if e[0] == "num":
        return str(e[1])
    if e[0] == "name":
        return e[1]
    if e[0] == "take":
        return "take"
    lead = e[: len(e) - len(kids(e))]
    words = [str(field) for field in (lead[1:] if e[0] == "op" else lead)]
    return "( " + " ".join(words + [plain_show(kid) for kid in kids(e)]) + " )"


def plain_lines(program):
    """The texts of a program."""
    lines = []
    for name, params, body in program[0]:
        lines.append(name + "".join(" " + param for param in params) + " : " + plain_show(body))
    return tuple(lines) + (plain_show(program[1]),)


def writes_name(word):
    return 1 <= len(word) <= 8 and set(word) <= set("abcdefghijklmnopqrstuvwxyz") and word not in WORDS


def writes_value(word):
    return word != "" and set(word) <= set("0123456789") and len(word) <= 9 and (word == "0" or word[0] != "0")


def behind_bracket(around, bound, word):
    """What may come behind the first word in brackets."""
    e = ("E", around, bound)
    if word in SIGNS:
        return [(e, e, ")")]
    if word in ("let", "set", "call"):
        return [((word, around, bound),)]
    rest = {"pick": (e, e, e, ")"), "say": (e, ")"), "do": (e, ("more 5", around, bound)), "again": ("times", e, ")")}
    return [rest[word]] if word in rest else []


def ways(symbol, word, counts):
    """What may stand in the place of a symbol's rest once this word is gone past; nothing where it can not stand."""
    if isinstance(symbol, str):
        fits = word in ("0", "1", "2", "3", "4", "5") if symbol == "times" else word == symbol
        return [()] if fits else []
    kind, around, bound = symbol
    e = ("E", around, bound)
    if kind == "E":
        if around == MOST_AROUND:
            return []
        if word == "(":
            return [(("inner", around + 1, bound),)]
        return [()] if writes_value(word) or word == "take" or writes_name(word) else []
    if kind == "inner":
        return behind_bracket(around, bound, word)
    if kind.startswith("more"):
        many = int(kind.split(" ")[1])
        if word == ")":
            return [()]
        return [way + ((f"more {many - 1}", around, bound),) for way in ways(e, word, counts)] if many > 0 else []
    if kind == "params":
        if word == ":":
            return [(("E", 0, bound),)]
        return [(("params", 0, bound | {word}),)] if writes_name(word) and word not in bound and len(bound) < 6 else []
    if not writes_name(word):
        return []
    if kind == "fun":
        return [(("params", 0, frozenset()),)] if word not in counts else []
    if kind == "let":
        return [(e, ("E", around, bound | {word}), ")")]
    if kind == "set":
        return [(e, ")")] if word not in bound else []
    if counts is None:
        return [(("more 6", around, bound),)]
    return [(e,) * counts[word] + (")",)] if word in counts else []


def first_wrong(words, counts=None, kind="E"):
    """The number of the first word that can not stand where it does, how many there are where words lack, or None
    where all is right: all that may still come is kept, as stacks of symbols."""
    stacks = {((kind, 0, frozenset()),)}
    for at, word in enumerate(words):
        coming = set()
        for stack in stacks:
            if stack:
                coming |= {way + stack[1:] for way in ways(stack[0], word, counts)}
        if not coming:
            return at
        stacks = coming
    return None if () in stacks else len(words)


def first_wrong_line(lines):
    """The pair (line, at) of the first line that is not right, or None."""
    if not lines:
        return (0, 0)
    counts = {}
    for number, line in enumerate(lines):
        words = line.split(" ")
        last = number == len(lines) - 1
        at = first_wrong(words, counts, "E" if last else "fun")
        if at is not None:
            return (number, at)
        counts[words[0]] = words.index(":") - 1 if not last else 0
    return None


def changed_words(rng, words, pool):
    """The words with one of them taken away, put in, changed, or two exchanged."""
    words = list(words)
    at = rng.randint(0, len(words) - 1)
    choice = rng.randint(0, 4)
    if choice == 0:
        del words[at]
    elif choice == 1:
        words.insert(rng.randint(0, len(words)), rng.choice(pool))
    elif choice == 2:
        words[at] = rng.choice(pool)
    elif choice == 3:
        other = rng.randint(0, len(words) - 1)
        words[at], words[other] = words[other], words[at]
    else:
        del words[at:]
    return words
