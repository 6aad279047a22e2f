"""The refusals of ferry, one class each, all below FerryError."""


class FerryError(ValueError):
    pass


class Spoilt(FerryError):
    pass


class NoPiece(FerryError):
    pass


class NoSpan(FerryError):
    pass


class NoStream(FerryError):
    pass


class NotMet(FerryError):
    pass


class Broken(FerryError):
    pass


class Ended(FerryError):
    pass


class TooMuch(FerryError):
    pass


class NoDeed(FerryError):
    pass
