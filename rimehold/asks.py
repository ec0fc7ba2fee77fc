"""Asks: by which lots they are met, and a lack that shows that no more can be."""

from rimehold.checks import is_hour, is_rising, is_tuple, is_whole, is_within, need_number
from rimehold.errors import NoAsks
from rimehold.houses import need_outs
from rimehold.pages import need_pages, steps_taken
from rimehold.ripening import hour_spoilt

MOST_ASKS = 10


def serving(house, outs, pages, asks):
    """Tell for each ask the lot that serves it, or None."""
    need_asks(house, outs, pages, asks)
    return serving_by(servers_of(house, outs, pages, asks), asks)


def lack(house, outs, pages, asks):
    """Tell some lack that lacks by as many as the serving leaves without a lot."""
    need_asks(house, outs, pages, asks)
    servers = servers_of(house, outs, pages, asks)
    served = serving_by(servers, asks)
    numbers = [number for number, lot in enumerate(served) if lot is None]
    at = 0
    while at < len(numbers):
        able = servers[numbers[at]]
        for lot in able:
            # As no more asks can be met, a lot that may serve one of these serves some ask already.
            number = served.index(lot)
            if number not in numbers:
                numbers.append(number)
        at += 1
    return tuple(sorted(numbers))


def is_serving(house, outs, pages, asks, thing):
    """Tell of anything whether it is a serving."""
    need_asks(house, outs, pages, asks)
    if not isinstance(thing, list) or len(thing) != len(asks):
        return False
    lots = [lot for lot in thing if lot is not None]
    if not all([is_whole(lot) for lot in lots]) or len(set(lots)) < len(lots):
        return False
    servers = servers_of(house, outs, pages, asks)
    return all([lot is None or lot in able for lot, able in zip(thing, servers)])


def is_lack(house, outs, pages, asks, many, thing):
    """Tell of anything whether it is a lack that lacks by so many or more."""
    need_asks(house, outs, pages, asks)
    need_number(many)
    if not are_numbers(asks, thing):
        return False
    servers = servers_of(house, outs, pages, asks)
    return len(thing) - len({lot for number in thing for lot in servers[number]}) >= many


def need_asks(house, outs, pages, thing):
    need_outs(house, outs)
    need_pages(house, pages)
    if not are_asks(house, thing):
        raise NoAsks("asks are a list of at most ten tuples (hour, kind)")


def are_asks(house, thing):
    return isinstance(thing, list) and len(thing) <= MOST_ASKS and all([is_ask(house, ask) for ask in thing])


def is_ask(house, thing):
    return is_tuple(thing, 2, 2) and is_hour(thing[0]) and is_within(thing[1], 0, len(house[1]) - 1)


def are_numbers(asks, thing):
    if not is_tuple(thing, 0, len(asks)):
        return False
    return all([is_within(number, 0, len(asks) - 1) for number in thing]) and is_rising(thing)


def serving_by(servers, asks):
    served = [None] * len(asks)
    for hour, kind, number in sorted([ask + (number,) for number, ask in enumerate(asks)]):
        free = [lot for lot in servers[number] if lot not in served]
        if free:
            served[number] = free[0]
    return served


def servers_of(house, outs, pages, asks):
    """Tell for each ask the lots that may serve it, the one that goes first ahead."""
    stays = sorted(stays_of(house, outs, steps_taken(house, pages)), key=turn_of)
    return [[coming[2] for coming, ceasing in stays if may_serve(coming, ceasing, ask)] for ask in asks]


def stays_of(house, outs, steps):
    """Tell (page of coming, hour of ceasing) of each lot that came in; the hour is None where it never ceases."""
    comings = [page for page, left, entered in steps if page[1] == "in"]
    return [(coming, ceasing_of(house, outs, steps, coming)) for coming in comings]


def ceasing_of(house, outs, steps, coming):
    hours = [page[0] for page, left, entered in steps if page[1] == "out" and page[2] == coming[2]]
    spoiling = hour_spoilt(house, outs, steps, coming)
    if spoiling is not None:
        hours.append(spoiling)
    return min(hours, default=None)


def turn_of(stay):
    """Tell what puts stays in the order in which their lots serve."""
    coming, ceasing = stay
    if ceasing is None:
        return (1, 0, coming[2])
    return (0, ceasing, coming[2])


def may_serve(coming, ceasing, ask):
    hour, kind = ask
    return coming[3] == kind and coming[0] <= hour and (ceasing is None or hour < ceasing)
