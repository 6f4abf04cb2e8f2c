"""A desk: it has a program and is told rows, each of which it answers by a text."""

from likepieces.backs import put_back
from likepieces.errors import NoRow
from likepieces.likes import alike
from likepieces.pieces import piece_at
from likepieces.puts import put
from likepieces.putting import paper_for
from likepieces.reading import is_figures, is_value_word, read_function, read_main
from likepieces.runs import run
from likepieces.savings import saving
from likepieces.tables import great
from likepieces.texts import show_program
from likepieces.trees import is_name

OK = "ok"
NONE = "-"


def fits_value(word):
    """Whether a word is a value."""
    return is_value_word(word)


def fits_count(word):
    """Whether a word is a number from 1 on."""
    return is_figures(word) and word != "0"


def fits_place(word):
    """Whether a word is written as a PLACE."""
    return all([is_figures(number) for number in word.split(".")])


def fits_name(word):
    """Whether a word is a name."""
    return is_name(word)


def place_of(word):
    """The place that a word writes."""
    number, *path = [int(figures) for figures in word.split(".")]
    return (number, tuple(path))


def place_word(place):
    """The word that writes a place."""
    number, path = place
    return ".".join([str(at) for at in (number,) + path])


def say_fun(desk, text):
    """A function more, behind the others."""
    functions, main = desk.program
    desk.program = (functions + (read_function(functions, text),), main)
    return OK


def say_main(desk, text):
    """Another main."""
    functions = desk.program[0]
    desk.program = (functions, read_main(functions, text))
    return OK


def say_show(desk, words):
    """The texts of the program."""
    return " | ".join(show_program(desk.program))


def say_run(desk, words):
    """The outcome of the program by inputs."""
    (kind, result), said, boxes, taken = run(desk.program, tuple([int(word) for word in words]))
    told = [kind, str(result), "said"] + [str(number) for number in said]
    told.extend(["boxes"] + [f"{name}={number}" for name, number in boxes])
    return " ".join(told + ["taken", str(taken)])


def say_alike(desk, words):
    """The exchange by which the pieces at two places are alike."""
    one, other = [piece_at(desk.program, place_of(word)) for word in words]
    pairs = alike(one, other)
    if pairs is None:
        return "unlike"
    return " ".join([f"{first}>{second}" for first, second in pairs]) if pairs else NONE


def say_great(desk, words):
    """The great groups by a least number of nodes."""
    groups = [" ".join([place_word(place) for place in places]) for places in great(desk.program, int(words[0]))]
    return " | ".join(groups) if groups else NONE


def say_put(desk, words):
    """One function in the place of pieces, or why there is none."""
    answer = paper_for(desk.program, tuple([place_of(word) for word in words]))
    if answer[0] == "not":
        return f"not {answer[1]} {answer[2]}"
    paper = answer[1]
    told = f"put {paper[1]} saving {saving(desk.program, paper)}"
    desk.program = put(desk.program, paper)
    return told


def say_back(desk, words):
    """A function put back."""
    desk.program = put_back(desk.program, words[0])
    return OK


# What comes behind these words is a line, whatever stands there.
LINES = {
    "fun": say_fun,
    "main": say_main,
}

# For each other word what is done, what must hold of the words behind it, and the least and the
# greatest count of them (None: there is none).
ROWS = {
    "show": (say_show, fits_name, 0, 0),
    "run": (say_run, fits_value, 0, 20),
    "alike": (say_alike, fits_place, 2, 2),
    "great": (say_great, fits_count, 1, 1),
    "put": (say_put, fits_place, 2, None),
    "back": (say_back, fits_name, 1, 1),
}


class Desk:
    """A desk with a program of its own, at first without functions, main being 0."""

    def __init__(self):
        self.program = ((), ("num", 0))

    def say(self, row):
        """The answer to a row, or a refusal."""
        first, blank, text = row.partition(" ")
        if first in LINES:
            tell = LINES[first]
            return tell(self, text)
        if first not in ROWS:
            raise NoRow("no row begins so")
        deed, fits, least, most = ROWS[first]
        words = text.split(" ") if blank else []
        if len(words) < least or (most is not None and len(words) > most) or not all([fits(word) for word in words]):
            raise NoRow("its words are too few, too many or not so written")
        return deed(self, words)
