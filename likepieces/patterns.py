"""Patterns: bare forms with holes, what fills them, and the most that bare forms share."""

from likepieces.bares import is_bare, loose
from likepieces.errors import NoFill
from likepieces.trees import built, flat, head, parts


def hole_numbers(b):
    """The numbers of the holes of a bare form, rising, each once."""
    return sorted({lead[1] for lead, many in flat(b) if lead[0] == "hole"})


def is_pattern(thing):
    """Whether any thing is a pattern."""
    if not is_bare(thing) or loose(thing) != ():
        return False
    numbers = hole_numbers(thing)
    return numbers == list(range(len(numbers)))


def hole_count(pattern):
    """How many holes of unlike numbers the pattern has."""
    return len(hole_numbers(pattern))


def filled(pattern, fillings):
    """The pattern with the fillings, as they stand, in the place of its holes, or NoFill."""
    if len(fillings) != hole_count(pattern):
        raise NoFill("the fillings are not as many as the holes")
    rows = []
    for lead, many in flat(pattern):
        rows.append((fillings[lead[1]], 0) if lead[0] == "hole" else (lead, many))
    return built(rows)


def headed_alike(forms):
    """Whether all these nodes are equal but for their parts, and have as many of them."""
    first = forms[0]
    return all([head(form) == head(first) and len(parts(form)) == len(parts(first)) for form in forms])


def got(pattern, other):
    """What the holes of the pattern are filled with where it becomes this bare form, or None."""
    found = {}
    kept = {}
    waiting = [(pattern, other)]
    while waiting:
        here, form = waiting.pop()
        if here[0] == "hole":
            rows = flat(form)
            if kept.setdefault(here[1], rows) != rows:
                return None
            found[here[1]] = form
        elif headed_alike((here, form)):
            waiting.extend(list(zip(parts(here), parts(form))))
        else:
            return None
    return tuple([found[number] for number in sorted(found)])


def parts_together(forms):
    """Of nodes with as many parts: their first parts as a tuple, their second ones, and so on."""
    inner = [parts(form) for form in forms]
    return [tuple([row[at] for row in inner]) for at in range(len(inner[0]))]


def most_shared(forms):
    """The most shared pattern of closed bare forms without holes, and for each of them what fills it."""
    rows = []
    numbers = {}
    columns = []
    waiting = [tuple(forms)]
    while waiting:
        here = waiting.pop()
        if headed_alike(here):
            inner = parts_together(here)
            rows.append((head(here[0]), len(inner)))
            waiting.extend(inner[::-1])
        else:
            number = numbers.setdefault(tuple([tuple(flat(form)) for form in here]), len(columns))
            if number == len(columns):
                columns.append(here)
            rows.append((("hole", number), 0))
    fillings = [tuple([column[at] for column in columns]) for at in range(len(forms))]
    return (built(rows), tuple(fillings))
