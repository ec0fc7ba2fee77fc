"""What every module asks of the things that are handed in."""

from rimehold.errors import NoHour, NoNumber


def is_whole(thing):
    # To Python a truth is an int; here it is no whole number.
    return isinstance(thing, int) and not isinstance(thing, bool)


def is_within(thing, least, greatest):
    return is_whole(thing) and least <= thing <= greatest


def is_hour(thing):
    return is_whole(thing) and thing >= 0


def is_tuple(thing, fewest, most):
    # The length is asked ahead of the parts, so that nothing long is gone through in vain.
    return isinstance(thing, tuple) and fewest <= len(thing) <= most


def is_rising(things):
    return all([things[at - 1] < things[at] for at in range(1, len(things))])


def need_hour(thing):
    if not is_hour(thing):
        raise NoHour("an hour is a whole number from 0 on")


def need_number(thing):
    if not is_whole(thing):
        raise NoNumber("a whole number is an int that is no truth")
