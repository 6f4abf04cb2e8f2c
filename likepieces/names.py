"""Names: which stand free, which are bound where, and exchanges of free ones."""

from likepieces.errors import NoExchange
from likepieces.trees import NODE, OPENED, built, head, is_name, parts, steps, way

LETTERS = "abcdefghijklmnopqrstuvwxyz"


def own_number(node, lets, level):
    """Of a name that a let binds how many other lets that bind there stand between, else -1."""
    if node[0] != "name" or not lets.get(node[1]):
        return -1
    return level - 1 - lets[node[1]][-1]


def owned(e):
    """The nodes of e in order, each in a pair with its own_number."""
    rows = []
    lets = {}
    level = 0
    for deed, node in steps(e):
        if deed == NODE:
            rows.append((node, own_number(node, lets, level)))
        elif deed == OPENED:
            lets.setdefault(node[1], []).append(level)
            level += 1
        else:
            lets[node[1]].pop()
            level -= 1
    return rows


def free_names(e):
    """The names that stand free in e, each once, in the order in which they stand first."""
    seen = {}
    for node, own in owned(e):
        if node[0] == "set" or (node[0] == "name" and own < 0):
            seen[node[1]] = True
    return tuple(seen)


def bound_at(e, path):
    """The names bound at the path by the lets around, the outermost first, or NoPlace."""
    around = way(e, path)[:-1]
    return tuple([node[1] for node, at in zip(around, path) if node[0] == "let" and at == 1])


def is_pair_of_names(thing):
    """Whether any thing is a tuple of two names."""
    return isinstance(thing, tuple) and len(thing) == 2 and is_name(thing[0]) and is_name(thing[1])


def is_exchange(thing):
    """Whether any thing is an exchange."""
    if not isinstance(thing, tuple) or not all([is_pair_of_names(pair) for pair in thing]):
        return False
    firsts = {first for first, second in thing}
    seconds = {second for first, second in thing}
    return len(firsts) == len(thing) and len(seconds) == len(thing)


def exchange_of(names, pairs):
    """For each of these unlike names what it becomes by the exchange, as a dict, or NoExchange."""
    if not is_exchange(pairs):
        raise NoExchange("this is no exchange of names")
    seconds = dict(pairs)
    become = {name: seconds.get(name, name) for name in names}
    if len({become[name] for name in names}) < len(become):
        raise NoExchange("two unlike names would become one")
    return become


def name_number(number):
    """Texts of small letters, the shortest first, by their number from 0."""
    text = ""
    left = number + 1
    while left > 0:
        left, letter = divmod(left - 1, len(LETTERS))
        text = LETTERS[letter] + text
    return text


def fresh_names(many, taken):
    """A list of so many unlike names, none of them taken."""
    avoided = {name: True for name in taken}
    found = []
    number = 0
    while len(found) < many:
        name = name_number(number)
        if is_name(name) and name not in avoided:
            found.append(name)
        number += 1
    return found


def let_names(e, avoided, taken):
    """For each name that a let of e has another one, as a dict, unlike ones for unlike names; it stays
    where it is not avoided, else it becomes none of those avoided or taken."""
    lets = {node[1]: node[1] for deed, node in steps(e) if deed == OPENED}
    caught = [name for name in lets if name in avoided]
    others = fresh_names(len(caught), avoided + taken + list(lets))
    for name, other in zip(caught, others):
        lets[name] = other
    return lets


def exchanged_head(node, own, free, lets):
    """A node's head, its name exchanged as the free names or as those of the lets are."""
    word = node[0]
    if word == "let" or (word == "name" and own >= 0):
        return (word, lets[node[1]])
    if word == "name" or word == "set":
        return (word, free[node[1]])
    return head(node)


def with_names(e, free, lets):
    """The expression e with its free names and those of its lets exchanged as these dicts tell."""
    return built([(exchanged_head(node, own, free, lets), len(parts(node))) for node, own in owned(e)])


def exchanged(e, pairs):
    """An expression like e, but its free names exchanged by the pairs, or NoExchange."""
    free = exchange_of(free_names(e), pairs)
    return with_names(e, free, let_names(e, list(free.values()), []))


def boxes_in(params, body):
    """The names of boxes in the body of a function with these params, each once, in the order in which they stand."""
    return [name for name in free_names(body) if name not in params]


def names_within(e):
    """The names of all names, sets and lets of e."""
    return [node[1] for node, own in owned(e) if node[0] in ("name", "set", "let")]


def with_boxes(params, body, become, avoided):
    """The params and the body of a function with its boxes' names exchanged as this dict tells; params and
    lets get other names where theirs are avoided."""
    boxes = {name: become.get(name, name) for name in boxes_in(params, body)}
    caught = [param for param in params if param in avoided]
    others = fresh_names(len(caught), avoided + list(params) + list(boxes.values()) + names_within(body))
    free = {param: param for param in params}
    free.update(dict(zip(caught, others)))
    told = tuple(free.values())
    free.update(boxes)
    return (told, with_names(body, free, let_names(body, avoided, list(free.values()))))
