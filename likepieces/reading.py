"""Reading: expressions and programs out of their texts.

Whatever is wrong is told by the number of the word that is next when it is seen; behind the
last word that is how many there are. Texts go at most twelve expressions deep, so they are
read by recursion.
"""

from likepieces.errors import NoLine, NoText
from likepieces.programs import MOST_PARAMS
from likepieces.trees import SIGNS, expression_rule, is_name, is_times

MOST_AROUND = 12
MOST_FIGURES = 9
BRACKETED = ("pick", "let", "set", "say", "do", "again", "call")


class Reader:
    """A text under way: its words, the number of the next one, and the counts of params of the functions
    that may be called, as a dict, or None where any may be."""

    def __init__(self, text, counts):
        self.words = text.split(" ")
        self.at = 0
        self.counts = counts


def is_figures(word):
    """Whether a word is figures, with no 0 ahead but in 0 itself."""
    if word == "" or not all(["0" <= sign <= "9" for sign in word]):
        return False
    return word == "0" or word[0] != "0"


def is_value_word(word):
    """Whether a word is the figures of a value."""
    return is_figures(word) and len(word) <= MOST_FIGURES


def next_word(reader):
    """The next word, or behind the last one the text without signs, which can not stand anywhere."""
    return reader.words[reader.at] if reader.at < len(reader.words) else ""


def go_past(reader, fits):
    """The next word is gone past where it fits, or NoText."""
    if not fits:
        raise NoText(reader.at)
    reader.at += 1


def read_leaf(reader):
    """The expression of one word that is next, or NoText."""
    word = next_word(reader)
    go_past(reader, is_value_word(word) or word == "take" or is_name(word))
    if word == "take":
        return ("take",)
    return ("name", word) if is_name(word) else ("num", int(word))


def is_name_for(reader, word, name, bound):
    """Whether this name may stand behind the word let, set or call, where the names of a tuple are bound."""
    if word == "set" and name in bound:
        return False
    if word == "call" and reader.counts is not None and name not in reader.counts:
        return False
    return is_name(name)


def read_head(reader, bound):
    """The head of the node whose bracket is gone past, or NoText."""
    word = next_word(reader)
    go_past(reader, word in SIGNS or word in BRACKETED)
    if word in SIGNS:
        return ("op", word)
    field = next_word(reader)
    if word == "again":
        go_past(reader, is_value_word(field) and is_times(int(field)))
        return (word, int(field))
    if word in ("let", "set", "call"):
        go_past(reader, is_name_for(reader, word, field, bound))
        return (word, field)
    return (word,)


def part_counts(reader, lead):
    """The least and the greatest count of parts of a node with this head."""
    if lead[0] == "call" and reader.counts is not None:
        return (reader.counts[lead[1]], reader.counts[lead[1]])
    fits, least, most = expression_rule(lead[0])
    return (least, most)


def read_parts(reader, lead, around, bound):
    """The parts of a node with this head, up to its bracket, or NoText."""
    least, most = part_counts(reader, lead)
    inner = []
    while next_word(reader) != ")" or len(inner) < least:
        if len(inner) == most:
            raise NoText(reader.at)
        here = bound + (lead[1],) if lead[0] == "let" and len(inner) == 1 else bound
        inner.append(read_expression(reader, around, here))
    reader.at += 1
    return tuple(inner)


def read_expression(reader, around, bound):
    """The expression that is next, with so many others around it and the names of a tuple bound, or NoText."""
    if around == MOST_AROUND:
        raise NoText(reader.at)
    if next_word(reader) != "(":
        return read_leaf(reader)
    reader.at += 1
    lead = read_head(reader, bound)
    return lead + read_parts(reader, lead, around + 1, bound)


def read_rest(reader, bound):
    """The expression that all words from the next one on write, or NoText."""
    e = read_expression(reader, 0, bound)
    if reader.at < len(reader.words):
        raise NoText(reader.at)
    return e


def read_params(reader):
    """The params up to the colon, which is gone past, or NoText."""
    params = []
    while next_word(reader) != ":":
        word = next_word(reader)
        go_past(reader, is_name(word) and word not in params and len(params) < MOST_PARAMS)
        params.append(word)
    reader.at += 1
    return tuple(params)


def read(text):
    """The expression that a text writes, or NoText."""
    return read_rest(Reader(text, None), ())


def line_reader(functions, text):
    """A reader of the line behind these functions."""
    return Reader(text, {name: len(params) for name, params, body in functions})


def read_function(functions, text):
    """The function that the line behind these functions writes, or NoLine."""
    reader = line_reader(functions, text)
    try:
        name = next_word(reader)
        go_past(reader, is_name(name) and name not in reader.counts)
        params = read_params(reader)
        return (name, params, read_rest(reader, params))
    except NoText as wrong:
        raise NoLine(len(functions), wrong.at) from None


def read_main(functions, text):
    """The main that the line behind these functions writes, or NoLine."""
    try:
        return read_rest(line_reader(functions, text), ())
    except NoText as wrong:
        raise NoLine(len(functions), wrong.at) from None


def read_program(texts):
    """The program that a tuple of texts writes, or NoLine."""
    if len(texts) == 0:
        raise NoLine(0, 0)
    functions = []
    for text in texts[:-1]:
        functions.append(read_function(functions, text))
    return (tuple(functions), read_main(functions, texts[-1]))
