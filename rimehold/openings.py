"""Openings: a row of doors by which moves are done, and rings that show that none is shorter.

Of the rooms that stand in a row once alone no ring is made, so of each ring
some room stands there twice. And it is enough that these rooms stand ahead of
all others and behind them once more, and that the others follow their moves.
"""

from rimehold.checks import is_tuple, need_number
from rimehold.errors import NoMoves
from rimehold.houses import is_room, need_house

MOST_MOVES = 10
MOST_RINGS = 30


def openings(house, moves):
    """Tell (row, rings): some row with the fewest rooms, and rings that show that no row has fewer."""
    need_moves(house, moves)
    rings = rings_of(moves)
    twice = list(fewest_of_each(house, rings))
    once = [room for room in rooms_named(moves) if room not in twice]
    return (twice + in_turn(once, moves) + twice, rings)


def is_row(house, moves, thing):
    """Tell of anything whether it is a row by which the moves are done."""
    need_moves(house, moves)
    if not isinstance(thing, list) or not all([is_room(house, room) for room in thing]):
        return False
    first, last = {}, {}
    for place, room in enumerate(thing):
        first.setdefault(room, place)
        last[room] = place
    return all([left in first and entered in first and first[left] < last[entered] for left, entered in moves])


def are_rings(house, moves, many, thing):
    """Tell of anything whether it is a list of rings that only so many rooms or more can meet."""
    need_moves(house, moves)
    need_number(many)
    if not isinstance(thing, list) or len(thing) > MOST_RINGS:
        return False
    return all([is_ring(house, moves, ring) for ring in thing]) and len(fewest_of_each(house, thing)) >= many


def need_moves(house, thing):
    need_house(house)
    if not are_moves(house, thing):
        raise NoMoves("moves are a list of at most ten tuples (from, to) of unlike rooms")


def are_moves(house, thing):
    return isinstance(thing, list) and len(thing) <= MOST_MOVES and all([is_move(house, move) for move in thing])


def is_move(house, thing):
    return is_tuple(thing, 2, 2) and all([is_room(house, room) for room in thing]) and thing[0] != thing[1]


def is_ring(house, moves, thing):
    if not is_tuple(thing, 2, 5) or not all([is_room(house, room) for room in thing]):
        return False
    return len(set(thing)) == len(thing) and all([step in moves for step in zip(thing, thing[1:] + thing[:1])])


def rooms_named(moves):
    return sorted({room for move in moves for room in move})


def rings_of(moves):
    """Tell a ring for each set of rooms of which one is made; of five rooms there are 26 such sets at most."""
    rings = {}
    paths = [(room,) for room in rooms_named(moves)]
    while paths:
        longer = []
        for path in paths:
            # Gone round from its least room on alone, a ring isn't found once for each of its rooms.
            following = sorted({entered for left, entered in moves if left == path[-1] and entered >= path[0]})
            if path[0] in following:
                rings.setdefault(tuple(sorted(path)), path)
            longer.extend([path + (room,) for room in following if room not in path])
        paths = longer
    return list(rings.values())


def fewest_of_each(house, rings):
    """Tell some fewest rooms of which each ring has one or more."""
    sets = [()]
    for room in range(len(house[0])):
        sets = sets + [rooms + (room,) for rooms in sets]
    meeting = [rooms for rooms in sets if all([meets(rooms, ring) for ring in rings])]
    return min(meeting, key=len)


def meets(rooms, ring):
    return any([room in ring for room in rooms])


def in_turn(rooms, moves):
    """Tell rooms of which no ring is made, each behind those out of which something is moved into it."""
    told = []
    while len(told) < len(rooms):
        waiting = [room for room in rooms if room not in told]
        blocked = [entered for left, entered in moves if left in waiting]
        told.extend([room for room in waiting if room not in blocked])
    return told
