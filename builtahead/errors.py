"""The errors of the package, each with what it tells in an attribute."""


class MadeError(ValueError):
    """What all errors of the package have above them."""


class BadLine(MadeError):
    """A line of a desk's text that is no request."""

    def __init__(self, number):
        super().__init__("a line is not written as a request")
        self.number = number


class BadText(MadeError):
    """A piece of a text that is not written as it must be."""

    def __init__(self, piece):
        super().__init__("a piece of a text is not written as it must be")
        self.piece = piece


class Known(MadeError):
    """A NAME that is there already."""

    def __init__(self, name):
        super().__init__("this name is there already")
        self.name = name


class NoMade(MadeError):
    """A NAME under which a board has no MADE."""

    def __init__(self, name):
        super().__init__("there is no program with this name")
        self.name = name


class NoName(MadeError):
    """A string that names nothing of what was asked."""

    def __init__(self, name):
        super().__init__("nothing has this name")
        self.name = name


class NoNumber(MadeError):
    """A number under which there is nothing."""

    def __init__(self, number):
        super().__init__("nothing has this number")
        self.number = number


class NotEven(MadeError):
    """An array whose parts have PLACES with unlike steps."""

    def __init__(self, array):
        super().__init__("this array is not even")
        self.array = array


class NotMade(MadeError):
    """What is not MADE of its SOURCE."""


class NothingDone(MadeError):
    """Nothing that could be taken back."""


class Stuck(MadeError):
    """Rows and waits with a ring of sum 0."""
