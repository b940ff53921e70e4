"""The errors that the program raises."""


class LoadError(ValueError):
    """The base class of the errors of this program."""


class BadText(LoadError):
    """A text that is not the text of a frame; `line` is the number of the first line that cannot stand."""

    def __init__(self, line):
        super().__init__(f"line {line} cannot stand there")
        self.line = line


class NoSuchFrame(LoadError):
    """A yard was asked for a frame that it does not keep; `name` is the name that was asked for."""

    def __init__(self, name):
        super().__init__(f"there is no frame with the name {name!r}")
        self.name = name
