"""Emptying: what is lost by an order of rooms when the power goes out for good, and why none loses less."""

from rimehold.checks import is_tuple, is_whole, is_within, need_hour, need_number
from rimehold.errors import NoEach, NoOrder
from rimehold.houses import is_room, need_outs
from rimehold.pages import need_pages, rooms_behind, steps_taken
from rimehold.ripening import coming_of, hour_spoilt


def loss(house, outs, pages, hour, each, order):
    """Tell the worth of all that is lost where the rooms are emptied in this order."""
    need_steps(house, outs, pages, hour, each)
    if not is_order(house, order):
        raise NoOrder("an order is a tuple of all rooms, each once")
    return loss_by(losses(house, outs, pages, hour, each), order)


def least(house, outs, pages, hour, each):
    """Tell (order, prices): some order with the least loss, and prices that come to as much."""
    need_steps(house, outs, pages, hour, each)
    lost = losses(house, outs, pages, hour, each)
    order = min(orders_of(house), key=lambda rooms: loss_by(lost, rooms))
    return (order, prices_for(lost, order))


def are_prices(house, outs, pages, hour, each, many, thing):
    """Tell of anything whether it is prices that come to so many or more."""
    need_steps(house, outs, pages, hour, each)
    need_number(many)
    if not is_tuple(thing, 2, 2) or not all([are_numbers_for(house, part) for part in thing]):
        return False
    lost = losses(house, outs, pages, hour, each)
    return keep_below(lost, thing) and sum(thing[0]) + sum(thing[1]) >= many


def need_steps(house, outs, pages, hour, each):
    need_outs(house, outs)
    need_pages(house, pages)
    need_hour(hour)
    if not is_within(each, 1, 99):
        raise NoEach("a step has a whole number of hours from 1 to 99")


def is_order(house, thing):
    many = len(house[0])
    return is_tuple(thing, many, many) and all([is_room(house, room) for room in thing]) and len(set(thing)) == many


def are_numbers_for(house, thing):
    many = len(house[0])
    return is_tuple(thing, many, many) and all([is_whole(number) for number in thing])


def keep_below(lost, prices):
    """Tell whether no room's and place's numbers are together greater than what is lost of this room there."""
    rooms, places = prices
    sums = [(price + other, lost[room][place])
            for room, price in enumerate(rooms) for place, other in enumerate(places)]
    return all([both <= most for both, most in sums])


def losses(house, outs, pages, hour, each):
    """Tell for each room the list of what is lost of it where it is emptied at each place."""
    steps = steps_taken(house, [page for page in pages if page[0] < hour])
    hours = [hour + place * each for place in range(len(house[0]))]
    dark = outs_for_good(outs, hour, hours[-1] + 1)
    spoilings = []
    for lot, room in rooms_behind(steps, hour).items():
        coming = coming_of(steps, lot)
        spoiling = hour_spoilt(house, dark, steps, coming)
        if spoiling is not None:
            spoilings.append((room, spoiling, coming[6]))
    return [[lost_of(spoilings, room, emptied) for emptied in hours] for room in range(len(hours))]


def lost_of(spoilings, room, hour):
    return sum([worth for where, spoiling, worth in spoilings if where == room and spoiling <= hour])


def outs_for_good(outs, hour, behind):
    """Tell the outs that count; an end behind the last hour that is looked at is as good as none."""
    ended = [out for out in outs if out[1] <= hour]
    begins = [begin for begin, end in outs if begin < hour < end]
    return ended + [(min(begins, default=hour), behind)]


def loss_by(lost, order):
    return sum([lost[room][place] for place, room in enumerate(order)])


def orders_of(house):
    rooms = list(range(len(house[0])))
    orders = [()]
    for turn in rooms:
        orders = [order + (room,) for order in orders for room in rooms if room not in order]
    return orders


def prices_for(lost, order):
    """Tell prices that come to the loss of an order that has the least.

    Each room's number and that of its own place come to just what is lost of
    it there, so a place's number is bound by those of the other places. A bound
    that came back to its own place would be an order that loses less, so as
    many rounds as there are places lower the numbers as far as they go.
    """
    places = [0] * len(order)
    for turn in order:
        for place, room in enumerate(order):
            for other in range(len(order)):
                bound = places[place] + lost[room][other] - lost[room][place]
                places[other] = min(places[other], bound)
    rooms = [0] * len(order)
    for place, room in enumerate(order):
        rooms[room] = lost[room][place] - places[place]
    return (tuple(rooms), tuple(places))
