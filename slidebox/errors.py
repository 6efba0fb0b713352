"""The refusals: each one has a name of its own and stands under BoxError."""


class BoxError(ValueError):
    pass


class NoWord(BoxError):
    pass


class NoShape(BoxError):
    pass


class NoBox(BoxError):
    pass


class NoPlace(BoxError):
    pass


class NoTable(BoxError):
    pass


class NoText(BoxError):
    pass


class Unlike(BoxError):
    pass


class TooMany(BoxError):
    pass


class TooBig(BoxError):
    pass
