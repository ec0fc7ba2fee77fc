"""Houses, the hours at which the power is out, and how cold a room is by these."""

from rimehold.checks import is_hour, is_rising, is_tuple, is_within, need_hour
from rimehold.errors import NoHouse, NoOuts, NoRoom

COLDEST = 3
MOST_OUTS = 4


def is_house(thing):
    """Tell of anything whether it is a house."""
    if not is_tuple(thing, 4, 4):
        return False
    rooms, kinds, apart, hold = thing
    return are_rooms(rooms) and are_kinds(kinds) and are_apart(apart, len(kinds)) and is_within(hold, 1, 9)


def are_rooms(thing):
    return is_tuple(thing, 1, 5) and all([is_within(cold, 0, COLDEST) for cold in thing])


def are_kinds(thing):
    return is_tuple(thing, 1, 4) and all([is_kind(kind) for kind in thing])


def is_kind(thing):
    return is_tuple(thing, 2, 2) and is_within(thing[0], 1, 999) and are_rates(thing[1])


def are_rates(thing):
    if not is_tuple(thing, COLDEST + 1, COLDEST + 1) or not all([is_within(rate, 0, 9) for rate in thing]):
        return False
    return all([colder <= warmer for warmer, colder in zip(thing, thing[1:])])


def are_apart(thing, many):
    if not isinstance(thing, tuple):
        return False
    return all([is_pair_apart(pair, many) for pair in thing]) and is_rising(thing)


def is_pair_apart(thing, many):
    if not is_tuple(thing, 2, 2):
        return False
    return all([is_within(kind, 0, many - 1) for kind in thing]) and thing[0] < thing[1]


def need_house(thing):
    if not is_house(thing):
        raise NoHouse("a house is a tuple (rooms, kinds, apart, hold)")


def are_outs(house, thing):
    """Tell of anything whether it is outs."""
    need_house(house)
    return is_tuple(thing, 0, MOST_OUTS) and all([is_out(out) for out in thing]) and lie_apart(thing)


def is_out(thing):
    return is_tuple(thing, 2, 2) and is_hour(thing[0]) and is_hour(thing[1]) and thing[0] < thing[1]


def lie_apart(outs):
    """Tell whether each out begins behind the end of the one ahead of it."""
    return all([ahead[1] < behind[0] for ahead, behind in zip(outs, outs[1:])])


def need_outs(house, thing):
    if not are_outs(house, thing):
        raise NoOuts("outs are a tuple of at most four tuples (begin, end) that don't meet or touch")


def is_room(house, thing):
    return is_within(thing, 0, len(house[0]) - 1)


def cold_at(house, outs, room, hour):
    """Tell the cold of a room at an hour, doors left aside."""
    need_outs(house, outs)
    if not is_room(house, room):
        raise NoRoom("a room is a whole number from 0 on, less than the house has rooms")
    need_hour(hour)
    return cold_by_outs(house, outs, room, hour)


def cold_by_outs(house, outs, room, hour):
    """Tell what cold_at tells, of things that were looked at already."""
    cold = house[0][room]
    for begin, end in outs:
        if begin <= hour < end:
            return max(0, cold - (hour - begin) // house[3])
    return cold


def hours_of_change(house, outs):
    """Tell all hours at which outs may change some room's cold; perhaps others, too, in whatever order."""
    hours = []
    for begin, end in outs:
        hours.extend([begin, end])
        hours.extend([begin + fall * house[3] for fall in range(1, COLDEST + 1)])
    return hours


def may_share(house, kind, other):
    return (min(kind, other), max(kind, other)) not in house[2]
