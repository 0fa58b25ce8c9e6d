"""Every refusal of the program, each a class of its own straight under AskError."""


class AskError(ValueError):
    pass


class BadHouse(AskError):
    pass


class BadWord(AskError):
    pass


class BadMark(AskError):
    pass


class NoInverse(AskError):
    pass


class OutOfTurn(AskError):
    pass


class NoDifference(AskError):
    pass


class Contradiction(AskError):
    pass


class NoPaper(AskError):
    pass


class NoText(AskError):
    pass
