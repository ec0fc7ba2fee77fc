"""What several tests need: houses, things of every kind, and a plain sum hour by hour."""

import random

from rimehold.errors import NoNumber

FAR = 10 ** 40 - 1

# Four rooms of unlike colds, three kinds; kinds 0 and 1 may not share a room, nor may 1 and 2.
HOUSE = ((3, 2, 1, 0), ((30, (9, 6, 3, 1)), (40, (5, 5, 2, 0)), (999, (4, 3, 2, 1))), ((0, 1), (1, 2)), 2)
SMALL = ((3,), ((10, (4, 3, 2, 1)),), (), 1)


def nested(deep, wrap):
    thing = 1
    for turn in range(deep):
        thing = wrap(thing)
    return thing


def anything():
    """Things of every kind that are no house, no outs but (), no pages but [], no room, no lot and no hour."""
    return [
        True, False, None, -1, -FAR, "", "in", "0", "a" * 2000, [None], {}, {0: 1}, {"hour": ()},
        (None,), ((),), ([],), [()], [[]], [{}], ((0, 1, 2),), ((1, 0),), [(0, "up", 1)],
        nested(60, lambda thing: [thing]), nested(60, lambda thing: (thing,)),
        nested(60, lambda thing: {"a": thing}), nested(60, lambda thing: (thing, thing) if thing == 1 else (thing, 0)),
        [0] * 10000, (0,) * 10000, ((0, 1),) * 3000, [(0, "out", 0)] * 3000, {key: key for key in range(5000)},
    ]


def no_numbers():
    """Things of every kind that are no whole numbers."""
    return [(), [], *[thing for thing in anything() if isinstance(thing, bool) or not isinstance(thing, int)]]


def wrong_ways(rights, errors):
    """(given, error) with each place of errors wrong, by things of every kind: alone, and with all behind it."""
    for thing in anything():
        for place, error in errors.items():
            if error is not NoNumber or thing in no_numbers():
                yield rights[:place] + [thing] + rights[place + 1:], error
                yield rights[:place] + [thing] * (len(rights) - place), error


def hold_just(case, told, many, thing):
    """A thing shows so many, and what is less, and no more."""
    with case.subTest(thing=thing):
        for less in (many, many - 1, min(many, 0), min(many, -1), -FAR):
            case.assertIs(told(less, thing), True)
        for more in (many + 1, FAR):
            case.assertIs(told(more, thing), False)


def reading(house, pages):
    """(page, word, doors opened, rooms of all lots behind it) of all pages, in the order of reading."""
    here, kind_of, told = {}, {}, []
    for page in sorted(pages):
        hour, deed, lot = page[:3]
        room = {"in": lambda: page[4], "to": lambda: page[3], "out": lambda: None}[deed]()
        kind = page[3] if deed == "in" else kind_of.get(lot)
        foes = {b for a, b in house[2] if a == kind} | {a for a, b in house[2] if b == kind}
        met = [other for other in here if here[other] == room and kind_of[other] in foes]
        if deed == "in" and lot in kind_of:
            word = "there"
        elif deed != "in" and lot not in here:
            word = "none"
        elif deed == "to" and here[lot] == room:
            word = "same"
        elif deed != "out" and met:
            word = "apart"
        else:
            word = "takes"
        doors = set()
        if word == "takes":
            doors = {here.get(lot), room} - {None}
            kind_of[lot] = kind
            here.pop(lot, None)
            if room is not None:
                here[lot] = room
        told.append((page, word, doors, dict(here)))
    return told


def plain_cold(house, outs, room, hour):
    """The cold by going through the hours of an out one by one."""
    cold = house[0][room]
    for begin, end in outs:
        since = 0
        for now in range(begin, end):
            if now > begin:
                since += 1
                if since % house[3] == 0:
                    cold -= 1
            if now == hour:
                return max(cold, 0)
        cold = house[0][room]
    return cold


def hourly(house, outs, pages, last):
    """The ripeness of each lot at each hour from 0 to last, as {lot: [ripeness or None]}, summed hour by hour."""
    told = reading(house, pages)
    ripe = {lot: None for lot in range(10)}
    kinds, here, rows = {}, {}, {lot: [] for lot in range(10)}
    for hour in range(last + 1):
        doors = set()
        for page, word, opened, state in told:
            if page[0] == hour:
                doors |= opened
                here = state
                if page[1] == "in" and word == "takes":
                    ripe[page[2]], kinds[page[2]] = page[5], page[3]
        for lot in range(10):
            rows[lot].append(ripe[lot])
        for lot, room in here.items():
            cold = max(0, plain_cold(house, outs, room, hour) - (room in doors))
            ripe[lot] += house[1][kinds[lot]][1][cold]
    return rows


def some_house(chance):
    rooms = tuple(chance.randint(0, 3) for turn in range(chance.randint(1, 5)))
    kinds = tuple((chance.choice([1, 5, 20, 60, 999]), tuple(sorted(
        [chance.randint(0, 9) for turn in range(4)], reverse=True))) for turn in range(chance.randint(1, 4)))
    pairs = [(a, b) for a in range(len(kinds)) for b in range(a + 1, len(kinds))]
    apart = tuple(sorted(chance.sample(pairs, chance.randint(0, len(pairs)))))
    return rooms, kinds, apart, chance.randint(1, 4)


def some_outs(chance, last):
    hours = sorted(chance.sample(range(last), 2 * chance.randint(0, 4)))
    return tuple(zip(hours[::2], hours[1::2]))


def some_page(chance, house, last):
    hour, lot, room = chance.randint(0, last), chance.randint(0, 4), chance.randrange(len(house[0]))
    deed = chance.choice(["in", "in", "out", "to", "to"])
    if deed == "in":
        return (hour, "in", lot, chance.randrange(len(house[1])), room, chance.choice([0, 1, 4, 30]), 7)
    return (hour, "out", lot) if deed == "out" else (hour, "to", lot, room)


def some_pages(chance, house, last):
    pages = list({some_page(chance, house, last): True for turn in range(chance.randint(0, 16))})
    chance.shuffle(pages)
    return pages


def cases(many, last):
    """Several (house, outs, pages), the same ones whenever they are asked."""
    chance = random.Random(7)
    for turn in range(many):
        house = some_house(chance)
        yield house, some_outs(chance, last), some_pages(chance, house, chance.choice([3, last]))
