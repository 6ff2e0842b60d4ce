"""The refusals of the program."""


class LayError(ValueError):
    pass


class BadBook(LayError):
    pass


class BadWord(LayError):
    pass


class BadOrder(LayError):
    pass


class BadNote(LayError):
    pass
