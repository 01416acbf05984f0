"""The refusals of the program, all under BoxError."""


class BoxError(ValueError):
    pass


class NoStatement(BoxError):
    pass


class NoName(BoxError):
    pass


class NoWorld(BoxError):
    pass


class NoBox(BoxError):
    pass


class NoLines(BoxError):
    pass


class NotShut(BoxError):
    pass
