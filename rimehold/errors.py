"""The refusals: one class for each, all straight under RimeError."""


class RimeError(ValueError):
    """Any refusal."""


class NoHouse(RimeError):
    """What was handed in is no house."""


class NoOuts(RimeError):
    """What was handed in is no outs."""


class NoRoom(RimeError):
    """What was handed in is no room of the house."""


class NoHour(RimeError):
    """What was handed in is no hour."""


class NoPages(RimeError):
    """What was handed in is no list of pages of the house."""


class NoLot(RimeError):
    """What was handed in is no lot."""


class NoAsks(RimeError):
    """What was handed in is no list of asks of the house."""


class NoNumber(RimeError):
    """What was handed in is no whole number."""


class NoMoves(RimeError):
    """What was handed in is no list of moves of the house."""


class NoEach(RimeError):
    """What was handed in is no number of hours for a step."""


class NoOrder(RimeError):
    """What was handed in is no order of the house's rooms."""


class NoPage(RimeError):
    """What was handed in is no page of the house."""


class NoOut(RimeError):
    """What was handed in is no out, or it meets or touches one that is there."""


class Twice(RimeError):
    """What is told is there already."""


class Missing(RimeError):
    """What is to be struck out isn't there."""


class TooMany(RimeError):
    """There is no place for one more."""


class NoDeed(RimeError):
    """No deed is left to be undone."""
