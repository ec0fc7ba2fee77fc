"""Pages: what each does as it is read, and where the lots are."""

from rimehold.checks import is_hour, is_rising, is_within, need_hour
from rimehold.errors import NoPages
from rimehold.houses import may_share, need_house

MOST_PAGES = 16
LAST_LOT = 9


def greatest_parts(house, word):
    """Tell the greatest number for each part behind a page's word, () where no page has this word."""
    last_kind, last_room = len(house[1]) - 1, len(house[0]) - 1
    if word == "in":
        return (LAST_LOT, last_kind, last_room, 999, 99)
    if word == "out":
        return (LAST_LOT,)
    if word == "to":
        return (LAST_LOT, last_room)
    return ()


def is_page(house, thing):
    if not isinstance(thing, tuple) or len(thing) < 3 or not is_hour(thing[0]):
        return False
    greatest = greatest_parts(house, thing[1])
    if len(greatest) != len(thing) - 2:
        return False
    return all([is_within(part, 0, most) for part, most in zip(thing[2:], greatest)])


def are_pages(house, thing):
    if not isinstance(thing, list) or len(thing) > MOST_PAGES:
        return False
    # Pages that are alike stand side by side once they are in order.
    return all([is_page(house, page) for page in thing]) and is_rising(sorted(thing))


def need_pages(house, thing):
    need_house(house)
    if not are_pages(house, thing):
        raise NoPages("pages are a list of at most sixteen unlike pages of the house")


def outcomes(house, pages):
    """Tell of each page, in the order of reading, whether it takes, or why not."""
    need_pages(house, pages)
    return [(page, word) for page, word, left, entered in read(house, pages)]


def places(house, pages, hour):
    """Tell in which room each lot is that is there behind all pages of an hour."""
    need_pages(house, pages)
    need_hour(hour)
    rooms = rooms_behind(steps_taken(house, pages), hour)
    return sorted(rooms.items())


def read(house, pages):
    """Tell of each page, in the order of reading, (page, word, room left, room entered).

    The rooms are None where there is none, and where the page doesn't take.
    """
    told = []
    kinds = {}
    rooms = {}
    for page in sorted(pages):
        lot = page[2]
        word = word_for(house, kinds, rooms, page)
        if word != "takes":
            told.append((page, word, None, None))
            continue
        told.append((page, word, rooms.get(lot), room_entered(page)))
        if page[1] == "in":
            kinds[lot] = page[3]
        if page[1] == "out":
            del rooms[lot]
        else:
            rooms[lot] = room_entered(page)
    return told


def room_entered(page):
    if page[1] == "in":
        return page[4]
    if page[1] == "to":
        return page[3]
    return None


def word_for(house, kinds, rooms, page):
    """Tell "takes" or the reason; kinds are of all lots that came in, rooms of all that are there."""
    deed, lot = page[1], page[2]
    if deed == "in" and lot in kinds:
        return "there"
    if deed != "in" and lot not in rooms:
        return "none"
    if deed == "out":
        return "takes"
    room = room_entered(page)
    if deed == "to" and rooms[lot] == room:
        return "same"
    kind = page[3] if deed == "in" else kinds[lot]
    neighbours = [other for other in rooms if rooms[other] == room]
    if all([may_share(house, kind, kinds[other]) for other in neighbours]):
        return "takes"
    return "apart"


def steps_taken(house, pages):
    """Tell (page, room left, room entered) of each page that takes, in the order of reading."""
    return [(page, left, entered) for page, word, left, entered in read(house, pages) if word == "takes"]


def rooms_behind(steps, hour):
    """Tell the dict of lot and room of all that are there behind all pages of an hour."""
    rooms = {}
    for page, left, entered in steps:
        if page[0] > hour:
            break
        if entered is None:
            del rooms[page[2]]
        else:
            rooms[page[2]] = entered
    return rooms


def is_opened(steps, room, hour):
    """Tell whether a door of the room is opened in an hour."""
    return any([page[0] == hour and room in (left, entered) for page, left, entered in steps])
