"""The refusals, a class each, all straight beneath LikeError."""


class LikeError(ValueError):
    """Any refusal."""

    def __init__(self, words=""):
        ValueError.__init__(self, words)


class NoPlace(LikeError):
    """A path or a place that leads nowhere."""

    def __init__(self, place):
        LikeError.__init__(self, f"{place} leads nowhere")
        self.place = place


class NoFunction(LikeError):
    """A name that no function of the program has."""

    def __init__(self, name):
        LikeError.__init__(self, f"no function is called {name}")
        self.name = name


class NoText(LikeError):
    """A text that writes no expression."""

    def __init__(self, at):
        LikeError.__init__(self, f"word {at} can not stand there")
        self.at = at


class NoLine(LikeError):
    """A line of a program's texts that is not right."""

    def __init__(self, line, at):
        LikeError.__init__(self, f"line {line}: word {at} can not stand there")
        self.line = line
        self.at = at


class NoTable(LikeError):
    """A thing that is no table and marks of the program."""

    def __init__(self, word, number):
        LikeError.__init__(self, f"no table: {word} {number}")
        self.word = word
        self.number = number


class NoPut(LikeError):
    """A thing that is no paper for the program."""

    def __init__(self, word, row, hole):
        LikeError.__init__(self, f"no paper: {word}, row {row}, hole {hole}")
        self.word = word
        self.row = row
        self.hole = hole


class NoExchange(LikeError):
    """A thing that is no exchange of names, or none for this expression or program."""


class NoBare(LikeError):
    """A bare form that is the bare form of no expression."""


class NoFill(LikeError):
    """Fillings that are not as many as the pattern's holes."""


class NoPlaces(LikeError):
    """A tuple of places that one function can not be asked for."""


class NoRow(LikeError):
    """A row that a desk does not know."""
