import copy
import itertools
import random
import unittest

from helper import FAR, HOUSE, SMALL, anything, hold_just, no_numbers, wrong_ways
from rimehold.errors import NoHouse, NoMoves, NoNumber
from rimehold.openings import are_rings, is_row, openings

KINDS = ((10, (4, 3, 2, 1)),)
FIVE = ((0, 1, 2, 3, 3), KINDS, (), 1)
FOUR = HOUSE
THREE = ((0, 1, 2), KINDS, (), 1)
TWO = ((0, 1), KINDS, (), 1)

THERE_AND_BACK = [(0, 1), (1, 0)]
RING_OF_THREE = [(0, 1), (1, 2), (2, 0)]
RING_OF_FIVE = [(0, 3), (3, 1), (1, 4), (4, 2), (2, 0)]


def does(moves, row):
    """Whether a row does all moves, by going through all pairs of its places."""
    pairs = set(itertools.combinations(row, 2))
    return all(move in pairs for move in moves)


def goes_round(moves, ring):
    return len(set(ring)) == len(ring) > 1 and all((ring[at - 1], ring[at]) in moves for at in range(len(ring)))


def fewest_meeting(rings):
    """How many of five rooms are needed so that each ring has one or more, by going through all choices."""
    return min(many for many in range(6) for rooms in itertools.combinations(range(5), many)
               if all(set(rooms) & set(ring) for ring in rings))


def named(moves):
    return len({room for move in moves for room in move})


def some_moves(chance, rooms, most):
    return [tuple(chance.sample(range(rooms), 2)) for turn in range(chance.randint(0, most))]


class Openings(unittest.TestCase):
    def held(self, house, moves):
        """All that is promised of what is told, but that no row is shorter by going through them."""
        told = openings(house, moves)
        self.assertIsInstance(told, tuple)
        row, rings = told
        more = len(row) - named(moves)
        self.assertIsInstance(row, list)
        self.assertTrue(does(moves, row))
        self.assertIsInstance(rings, list)
        self.assertLessEqual(len(rings), 30)
        for ring in rings:
            self.assertIsInstance(ring, tuple)
            self.assertTrue(goes_round(moves, ring))
        self.assertEqual(fewest_meeting(rings), more)
        self.assertIs(is_row(house, moves, row), True)
        self.assertIs(are_rings(house, moves, more, rings), True)
        self.assertIs(are_rings(house, moves, more + 1, rings), False)
        return len(row)

    def none_shorter(self, house, moves):
        most = self.held(house, moves)
        rooms = range(len(house[0]))
        self.assertFalse(any(does(moves, row) for row in itertools.product(rooms, repeat=most - 1)) if most else False)

    def test_no_moves(self):
        for house in (SMALL, TWO, FOUR, FIVE):
            self.assertEqual(openings(house, []), ([], []))

    def test_one_move_and_one_behind_another(self):
        self.assertEqual(openings(FOUR, [(2, 1)]), ([2, 1], []))
        self.assertEqual(openings(FOUR, [(0, 2), (3, 0), (2, 1)]), ([3, 0, 2, 1], []))

    def test_the_same_move_more_than_once(self):
        self.assertEqual(openings(FOUR, [(2, 1)] * 10), ([2, 1], []))
        self.assertEqual(self.held(FOUR, THERE_AND_BACK * 5), 3)

    def test_there_and_back(self):
        row, rings = openings(TWO, THERE_AND_BACK)
        self.assertIn(row, ([0, 1, 0], [1, 0, 1]))
        self.assertIn(rings, ([(0, 1)], [(1, 0)]))
        # Two that have nothing in common; and two that share a room.
        self.assertEqual(self.held(FOUR, [(0, 1), (1, 0), (2, 3), (3, 2)]), 6)
        self.assertEqual(self.held(FOUR, [(0, 1), (1, 0), (1, 3), (3, 1)]), 4)

    def test_longer_rings(self):
        self.assertEqual(self.held(FOUR, RING_OF_THREE), 4)
        self.assertEqual(self.held(FIVE, RING_OF_FIVE), 6)
        self.assertEqual(self.held(FIVE, RING_OF_THREE + [(2, 3), (3, 4), (4, 2)]), 6)
        self.assertEqual(self.held(FIVE, RING_OF_THREE + [(3, 4), (4, 3)]), 7)

    def test_ten_moves_over_five_rooms(self):
        both_ways = [(a, b) for a, b in itertools.permutations(range(3), 2)]
        for moves, many in ((RING_OF_FIVE + [(b, a) for a, b in RING_OF_FIVE], 8),
                            (both_ways + [(3, 4), (4, 3), (0, 3), (4, 1)], 8),
                            (list(itertools.combinations(range(5), 2)), 5),
                            (list(itertools.combinations(range(4, -1, -1), 2)), 5)):
            self.assertEqual(len(moves), 10)
            self.assertEqual(self.held(FIVE, moves), many)
            self.none_shorter(FIVE, moves)

    def test_against_all_rows_over_three_rooms(self):
        pairs = list(itertools.permutations(range(3), 2))
        for many in range(7):
            for moves in itertools.combinations(pairs, many):
                self.none_shorter(THREE, list(moves))

    def test_against_all_rows_over_four_rooms(self):
        chance = random.Random(4)
        for turn in range(60):
            self.none_shorter(FOUR, some_moves(chance, 4, 10))

    def test_over_five_rooms(self):
        chance = random.Random(6)
        more = set()
        for turn in range(1500):
            moves = [tuple(chance.sample(range(5), 2)) for move in range(chance.choice([8, 9, 10, 10]))]
            more.add(self.held(FIVE, moves) - named(moves))
        self.assertEqual(more, {0, 1, 2, 3})

    def test_every_set_of_ten_moves_keeps_to_thirty_rings(self):
        pairs = list(itertools.permutations(range(5), 2))
        chance = random.Random(9)
        for turn in range(600):
            row, rings = openings(FIVE, chance.sample(pairs, 10))
            self.assertLessEqual(len(rings), 30)


class IsRow(unittest.TestCase):
    MOVES = [(0, 1), (1, 2)]

    def told(self, thing, moves=MOVES, house=FOUR):
        return is_row(house, moves, thing)

    def test_right_and_wrong(self):
        for thing in ([0, 1, 2], [3, 0, 1, 2], [0, 1, 3, 2], [0, 0, 1, 2, 2], [1, 0, 2, 1], [2, 1, 0, 1, 2], [0, 1, 2] * 9):
            self.assertIs(self.told(thing), True, thing)
        for thing in ([], [0], [0, 1], [1, 2], [0, 2], [2, 1, 0], [0, 2, 1], [1, 0, 2], [1, 2, 0], [3, 3, 3], [1, 1]):
            self.assertIs(self.told(thing), False, thing)

    def test_other_rooms_than_moves_name(self):
        for thing in ([], [0], [3, 3], [0, 1, 2, 3] * 2500):
            self.assertIs(self.told(thing, []), True)
        self.assertIs(self.told([0, 4, 1, 2]), False)
        self.assertIs(self.told([0, 4, 1, 2], house=FIVE), True)
        self.assertIs(self.told([-1, 0, 1, 2]), False)
        self.assertIs(self.told([5], [], FIVE), False)

    def test_of_anything(self):
        for thing in [(), (0, 1, 2), [0, True, 2], [False, 1, 2], [0, 1, "2"], [0, 1, 2, None], [0, 1, (2,)], [[0, 1, 2]],
                      {0: 1, 1: 2}, "012", 0]:
            self.assertIs(self.told(thing), False)
        for thing in anything():
            self.assertIs(self.told(thing), False)
            self.assertIs(self.told(thing, []), thing == [0] * 10000)
            self.assertIs(self.told([0, 1, 2, thing]), False)
            self.assertIs(self.told([thing, 0, 1, 2]), False)

    def test_against_all_pairs_of_places(self):
        chance = random.Random(8)
        for turn in range(400):
            moves = some_moves(chance, 4, 4)
            row = [chance.randrange(4) for place in range(chance.randint(0, 8))]
            self.assertIs(self.told(row, moves), does(moves, row))


class AreRings(unittest.TestCase):
    MOVES = RING_OF_THREE + [(1, 0), (2, 3), (3, 2), (3, 0)]

    def told(self, many, thing, house=FOUR):
        return are_rings(house, self.MOVES, many, thing)

    def test_just_met_one_more_one_less(self):
        for rings, many in (([], 0), ([(0, 1)], 1), ([(1, 0)], 1), ([(0, 1), (0, 1)], 1), ([(0, 1, 2), (2, 0, 1)], 1),
                            ([(0, 1), (2, 3)], 2), ([(0, 1), (2, 3), (1, 2, 0)], 2), ([(0, 1, 2, 3), (3, 2)], 1)):
            hold_just(self, self.told, many, rings)

    def test_thirty_and_thirty_one(self):
        self.assertIs(self.told(1, [(0, 1)] * 30), True)
        self.assertIs(self.told(1, [(0, 1)] * 31), False)
        self.assertIs(self.told(-1, [(0, 1)] * 31), False)
        self.assertIs(self.told(2, [(0, 1), (2, 3)] * 15), True)

    def test_no_rings(self):
        for ring in ((), (0,), (0, 0), (0, 1, 0, 1), (0, 1, 0), (0, 2), (2, 0), (1, 3), (0, 2, 1), (0, 1, 2, 0), (0, 1, 4),
                     (0, 1, -1), (4, 0), (0, True), (False, 1), ("0", 1), [0, 1], (0, 1, None), 0, None):
            with self.subTest(ring=ring):
                self.assertIs(self.told(-9, [ring]), False)
                self.assertIs(self.told(-9, [(0, 1), ring]), False)

    def test_a_ring_is_closed_from_the_last_to_the_first(self):
        self.assertIs(are_rings(FOUR, [(0, 1), (1, 2)], -9, [(0, 1, 2)]), False)
        self.assertIs(are_rings(FOUR, [(0, 1), (1, 2), (2, 0)], 1, [(0, 1, 2)]), True)
        self.assertIs(are_rings(FOUR, [(0, 1), (1, 2), (0, 2)], -9, [(0, 1, 2)]), False)
        self.assertIs(are_rings(FOUR, [(1, 2), (2, 0)], -9, [(0, 1, 2)]), False)

    def test_all_five_rooms(self):
        for at in range(5):
            ring = tuple([0, 3, 1, 4, 2][at:] + [0, 3, 1, 4, 2][:at])
            self.assertIs(are_rings(FIVE, RING_OF_FIVE, 1, [ring]), True)
            self.assertIs(are_rings(FIVE, RING_OF_FIVE, -1, [ring[::-1]]), False)
            self.assertIs(are_rings(FIVE, RING_OF_FIVE, -1, [ring + ring[:1]]), False)

    def test_of_anything(self):
        for thing in ((), ((0, 1),), {(0, 1): 1}, (0, 1), 0, "", *anything()):
            self.assertIs(self.told(-9, thing), False)
        for thing in [(), [], *anything()]:
            self.assertIs(self.told(-9, [thing]), False)
            self.assertIs(self.told(-9, [(0, thing)]), False)
            self.assertIs(self.told(-9, [(0, 1), thing]), False)

    def test_without_moves(self):
        self.assertIs(are_rings(SMALL, [], 0, []), True)
        self.assertIs(are_rings(SMALL, [], 1, []), False)
        self.assertIs(are_rings(SMALL, [], -1, [(0, 0)]), False)

    def test_no_number(self):
        for many in no_numbers():
            self.assertRaises(NoNumber, self.told, many, [(0, 1)])
            self.assertRaises(NoNumber, self.told, many, many)

    def test_against_all_choices_of_rooms(self):
        chance = random.Random(10)
        for turn in range(300):
            moves = [tuple(chance.sample(range(5), 2)) for move in range(10)]
            rings = [ring for many in range(2, 6) for ring in itertools.permutations(range(5), many)
                     if goes_round(moves, ring)]
            some = chance.sample(rings, min(len(rings), chance.randint(0, 5)))
            many = fewest_meeting(some)
            for more in (-1, 0, 1):
                self.assertIs(are_rings(FIVE, moves, many + more, some), more < 1)


class Refusals(unittest.TestCase):
    def told(self, house, moves):
        return [(openings, house, moves), (is_row, house, moves, []), (are_rings, house, moves, 0, [])]

    def test_which_goes_first(self):
        for given, error in wrong_ways([HOUSE, [], 0, []], {0: NoHouse, 1: NoMoves, 2: NoNumber}):
            self.assertRaises(error, are_rings, *given)
        for given, error in wrong_ways([HOUSE, []], {0: NoHouse, 1: NoMoves}):
            self.assertRaises(error, openings, *given)
            self.assertRaises(error, is_row, *given, given[-1])

    def test_no_moves(self):
        for moves in ((), ((0, 1),), [(0, 0)], [(0,)], [(0, 1, 2)], [[0, 1]], [(0, 4)], [(4, 0)], [(-1, 0)], [(0, -1)],
                      [(0, True)], [(False, 1)], [("0", 1)], [(0, None)], [(0, 1), None], [(0, 1)] * 11, [0, 1], {(0, 1): 1}):
            for ask, *given in self.told(HOUSE, moves):
                self.assertRaises(NoMoves, ask, *given)
        for thing in [(), [], *anything()]:
            for moves in ([(0, thing)], [(thing, 0)], [thing], [(0, 1), thing]):
                self.assertRaises(NoMoves, openings, HOUSE, moves)

    def test_rooms_of_the_house(self):
        self.assertEqual(openings(FIVE, [(0, 4)]), ([0, 4], []))
        self.assertRaises(NoMoves, openings, FOUR, [(0, 4)])
        self.assertRaises(NoMoves, openings, SMALL, [(0, 1)])

    def test_ten_moves(self):
        self.assertEqual(openings(HOUSE, [(0, 1)] * 10), ([0, 1], []))


class HandedIn(unittest.TestCase):
    def test_unchanged_and_told_again(self):
        chance = random.Random(12)
        for turn in range(50):
            moves = some_moves(chance, 5, 10)
            kept = list(moves)
            told = openings(FIVE, moves)
            first = copy.deepcopy(told)
            told[0].append(0)
            told[1].append((0, 1))
            self.assertEqual(openings(FIVE, moves), first)
            is_row(FIVE, moves, first[0])
            are_rings(FIVE, moves, 0, first[1])
            self.assertEqual(openings(FIVE, moves), first)
            self.assertEqual(moves, kept)
