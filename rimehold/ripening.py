"""How ripe lots are, when they are spoilt, and who went out out of turn.

Between two hours at which something changes every hour gives a lot the same
points, so whole stretches are reckoned at once, however long they are.
"""

from rimehold.checks import is_within, need_hour
from rimehold.errors import NoLot
from rimehold.houses import cold_by_outs, hours_of_change, need_outs
from rimehold.pages import LAST_LOT, is_opened, need_pages, rooms_behind, steps_taken


def ripeness(house, outs, pages, lot, hour):
    """Tell how ripe a lot is at an hour, None where it hasn't come in by then."""
    need_lot_of(house, outs, pages, lot)
    need_hour(hour)
    steps = steps_taken(house, pages)
    coming = coming_of(steps, lot)
    if coming is None or coming[0] > hour:
        return None
    return ripe_at(house, outs, steps, coming, hour)


def spoilt_at(house, outs, pages, lot):
    """Tell the first hour at which a lot is spoilt, None where there is none."""
    need_lot_of(house, outs, pages, lot)
    steps = steps_taken(house, pages)
    coming = coming_of(steps, lot)
    if coming is None:
        return None
    return hour_spoilt(house, outs, steps, coming)


def turns(house, outs, pages):
    """Tell each "out" by which a lot goes out of turn, with the elder lot that waits."""
    need_outs(house, outs)
    need_pages(house, pages)
    steps = steps_taken(house, pages)
    told = []
    waiting = {}
    for page, left, entered in steps:
        if page[1] == "in":
            waiting[page[2]] = page
        if page[1] == "out":
            leaving = waiting.pop(page[2])
            elder = elder_of(house, outs, steps, list(waiting.values()), leaving, page[0])
            if elder is not None:
                told.append((page, elder))
    return told


def spoilt(house, outs, pages):
    """Tell the lots that were spoilt as they went out."""
    need_outs(house, outs)
    need_pages(house, pages)
    steps = steps_taken(house, pages)
    lots = []
    for page, left, entered in steps:
        if page[1] == "out":
            coming = coming_of(steps, page[2])
            if ripe_at(house, outs, steps, coming, page[0]) >= limit_of(house, coming):
                lots.append(page[2])
    return sorted(lots)


def need_lot_of(house, outs, pages, lot):
    need_outs(house, outs)
    need_pages(house, pages)
    if not is_within(lot, 0, LAST_LOT):
        raise NoLot("a lot is a whole number from 0 to 9")


def coming_of(steps, lot):
    """Tell the page by which a lot came in, None where it never did."""
    for page, left, entered in steps:
        if page[1] == "in" and page[2] == lot:
            return page
    return None


def limit_of(house, coming):
    return house[1][coming[3]][0]


def points_in(house, outs, steps, coming, hour):
    """Tell what a lot gains in an hour, 0 where it isn't there."""
    rooms = rooms_behind(steps, hour)
    if coming[2] not in rooms:
        return 0
    room = rooms[coming[2]]
    cold = cold_by_outs(house, outs, room, hour)
    if is_opened(steps, room, hour):
        cold = max(0, cold - 1)
    return house[1][coming[3]][1][cold]


def stretches(house, outs, steps, coming):
    """Tell the rising list of (begin, end, points an hour) from a lot's coming on; the last end is None."""
    hours = hours_of_change(house, outs)
    for page, left, entered in steps:
        # A door warms its room for one hour alone, so the next hour is a change, too.
        hours.extend([page[0], page[0] + 1])
    begins = [hour for hour in sorted(set(hours)) if hour >= coming[0]]
    ends = begins[1:] + [None]
    return [(begin, end, points_in(house, outs, steps, coming, begin)) for begin, end in zip(begins, ends)]


def ripe_at(house, outs, steps, coming, hour):
    """Tell how ripe a lot is at an hour that doesn't lie ahead of its coming."""
    ripe = coming[5]
    for begin, end, points in stretches(house, outs, steps, coming):
        until = hour if end is None else min(end, hour)
        ripe += points * max(0, until - begin)
    return ripe


def hour_spoilt(house, outs, steps, coming):
    lacking = limit_of(house, coming) - coming[5]
    if lacking <= 0:
        return coming[0]
    for begin, end, points in stretches(house, outs, steps, coming):
        if points > 0:
            # The last hour may give more than is lacking: the hours are rounded up.
            reached = begin + (lacking + points - 1) // points
            if end is None or reached <= end:
                return reached
            lacking -= points * (end - begin)
    return None


def elder_of(house, outs, steps, waiting, leaving, hour):
    """Tell the ripest lot of those waiting that is of the leaving one's kind and riper, None where none is."""
    ripe = ripe_at(house, outs, steps, leaving, hour)
    elder, most = None, ripe
    for coming in sorted(waiting, key=lambda page: page[2]):
        if coming[3] == leaving[3]:
            other = ripe_at(house, outs, steps, coming, hour)
            if other > most:
                elder, most = coming[2], other
    return elder
