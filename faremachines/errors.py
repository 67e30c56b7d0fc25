"""The errors that the program raises ([1.1])."""


class FareError(ValueError):
    """The base class of all errors of the program."""


class NotAllowed(FareError):
    """An argument is not what it has to be."""


class TooLarge(FareError):
    """An answer, or the way to it, is beyond a limit."""


class Missing(FareError):
    """There is no such thing as was asked for."""


class BadPaper(FareError):
    """A paper that had to be right is not."""


class BadForm(FareError):
    """A text cannot be read, because of the line with the number `line`."""

    def __init__(self, line):
        super().__init__(f"line {line} cannot stand where it stands")
        self.line = line


class Broken(FareError):
    """The bound of the machine `number` would be broken by the fare `fare`."""

    def __init__(self, number, fare):
        super().__init__(f"the fare {fare} breaks the bound of machine {number}")
        self.number = number
        self.fare = fare
