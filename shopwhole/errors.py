"""The errors of the shop."""


class ShopError(Exception):
    """Something in the shop is not as it must be."""


class BadThing(ShopError):
    """A thing with which what was asked cannot be done."""

    def __init__(self, thing):
        super().__init__(f"not with this: {thing!r}")
        self.thing = thing


class BadText(ShopError):
    """A text that is wrong at a line and column, both counted from 1; (0, 0) for no text."""

    def __init__(self, line, column):
        super().__init__(f"wrong at line {line}, column {column}")
        self.line = line
        self.column = column


class BadJob(ShopError):
    """A thing that is no job: name tells the part of it that is wrong."""

    def __init__(self, name, why):
        super().__init__(f"{name}: {why}")
        self.name = name
        self.why = why


class BadPaper(ShopError):
    """A paper that does not show what it must show."""

    def __init__(self, why):
        super().__init__(f"{why}")
        self.why = why


class Alarm(ShopError):
    """The machine cannot go on."""

    def __init__(self, why):
        super().__init__(f"{why}")
        self.why = why
