import copy
import itertools
import random
import unittest

from helper import FAR, HOUSE, SMALL, anything, cases, hold_just, hourly, no_numbers, reading, wrong_ways
from rimehold.asks import is_lack, is_serving, lack, serving
from rimehold.errors import NoAsks, NoHouse, NoNumber, NoOuts, NoPages

# By then every lot of the small cases is spoilt, or never will be: the greatest limit is 999.
LONG = 1040
EMPTY = (HOUSE, (), [])

# Kind 2 gains 2 an hour in room 1, 3 in the hour of an open door, and is spoilt at 999.
# Lots 0 to 3 are there from hour 0 on; 0 goes out at 6, 1 is spoilt at 3 (992 + 3 + 2 + 2), 2 and 3 later.
PAGES = [(0, "in", 0, 2, 1, 0, 0), (0, "in", 1, 2, 1, 992, 0), (0, "in", 2, 2, 1, 0, 0), (0, "in", 3, 0, 1, 0, 0),
         (6, "out", 0)]
WEEK = (HOUSE, (), PAGES)


def plain_stays(house, outs, pages):
    """{lot: (kind, coming, ceasing or None)}, by a sum hour by hour."""
    rows, stays = hourly(house, outs, pages, LONG), {}
    for page, word, doors, here in reading(house, pages):
        if word == "takes" and page[1] == "in":
            limit = house[1][page[3]][0]
            ripe = [hour for hour in range(page[0], LONG) if rows[page[2]][hour] >= limit]
            stays[page[2]] = (page[3], page[0], ripe[0] if ripe else None)
        if word == "takes" and page[1] == "out":
            kind, coming, ceasing = stays[page[2]]
            stays[page[2]] = (kind, coming, page[0] if ceasing is None else min(ceasing, page[0]))
    return stays


def plain_servers(stays, asks):
    return [{lot for lot, (of, coming, ceasing) in stays.items()
             if of == kind and coming <= hour and (ceasing is None or ceasing > hour)} for hour, kind in asks]


def plain_serving(stays, asks):
    able, told = plain_servers(stays, asks), [None] * len(asks)
    left = list(range(len(asks)))
    while left:
        number = min(left, key=lambda number: (*asks[number], number))
        left.remove(number)
        free = able[number] - set(told)
        if free:
            ever = {lot for lot in free if stays[lot][2] is None}
            told[number] = min(free - ever, key=lambda lot: (stays[lot][2], lot)) if free - ever else min(ever)
    return told


def most_met(able):
    """The most asks that can be met, by going through all ways."""
    if not able:
        return 0
    return max([most_met(able[1:])] + [1 + most_met([lots - {lot} for lots in able[1:]]) for lot in able[0]])


def some_asks(chance, house, most, last):
    return [(chance.randint(0, last), chance.randrange(len(house[1]))) for turn in range(chance.randint(0, most))]


def weeks(many, most):
    chance = random.Random(11)
    for house, outs, pages in cases(many, 20):
        yield house, outs, pages, some_asks(chance, house, most, chance.choice([2, 8, 30]))


class Serving(unittest.TestCase):
    def test_none(self):
        self.assertEqual(serving(*EMPTY, []), [])
        self.assertEqual(serving(*WEEK, []), [])
        self.assertEqual(serving(*EMPTY, [(0, 0), (0, 2)]), [None, None])

    def test_the_soonest_ceasing_first(self):
        self.assertEqual(serving(*WEEK, [(2, 2)]), [1])
        self.assertEqual(serving(*WEEK, [(2, 2), (2, 2), (2, 2), (2, 2)]), [1, 0, 2, None])

    def test_not_when_spoilt(self):
        self.assertEqual(serving(*WEEK, [(3, 2)]), [0])
        self.assertEqual(serving(*WEEK, [(2, 2), (3, 2)]), [1, 0])

    def test_not_when_gone_out(self):
        self.assertEqual(serving(*WEEK, [(5, 2)]), [0])
        self.assertEqual(serving(*WEEK, [(6, 2)]), [2])
        self.assertEqual(serving(*WEEK, [(6, 2), (6, 2)]), [2, None])

    def test_not_ahead_of_its_coming(self):
        pages = [(5, "in", 4, 0, 0, 0, 0)]
        self.assertEqual([serving(HOUSE, (), pages, [(hour, 0)]) for hour in (0, 4, 5, 6)], [[None], [None], [4], [4]])

    def test_kinds_with_and_without_lots(self):
        self.assertEqual(serving(*WEEK, [(1, 0), (1, 1), (1, 2), (1, 0)]), [3, None, 1, None])

    def test_in_the_order_of_hour_kind_number(self):
        # Lot 1 ceases at 3, so the ask of the sooner hour has it, though its number is greater.
        self.assertEqual(serving(*WEEK, [(2, 2), (1, 2)]), [0, 1])
        self.assertEqual(serving(*WEEK, [(1, 2), (2, 2)]), [1, 0])
        self.assertEqual(serving(*WEEK, [(1, 2), (1, 2)]), [1, 0])
        self.assertEqual(serving(*WEEK, [(7, 2), (6, 2), (0, 2), (0, 0), (1, 0)]), [None, 2, 1, 3, None])

    def test_ceasing_at_one_hour(self):
        pages = [(0, "in", lot, 2, 0, 0, 0) for lot in (7, 3, 5)] + [(9, "out", lot) for lot in (3, 5, 7)]
        self.assertEqual(serving(HOUSE, (), pages, [(4, 2), (3, 2), (8, 2), (8, 2)]), [5, 3, 7, None])
        # One spoilt at the very hour at which the other goes out: 9 in the first hour, 9 in each behind it.
        pages = [(0, "in", 6, 0, 3, 3, 0), (0, "in", 2, 0, 0, 0, 0), (3, "out", 2)]
        self.assertEqual(serving(HOUSE, (), pages, [(2, 0), (2, 0), (3, 0)]), [2, 6, None])
        pages = [(0, "in", 2, 0, 3, 3, 0), (0, "in", 6, 0, 0, 0, 0), (3, "out", 6)]
        self.assertEqual(serving(HOUSE, (), pages, [(2, 0), (2, 0), (3, 0)]), [2, 6, None])

    def test_never_ceasing_last(self):
        # Kind 1 gains nothing at the cold 3; lot 0 never ceases, nor does 1, but 9 goes out very late.
        pages = [(0, "in", 0, 1, 0, 0, 0), (0, "in", 1, 1, 0, 0, 0), (0, "in", 9, 1, 0, 0, 0), (FAR, "out", 9)]
        self.assertEqual(serving(HOUSE, (), pages, [(5, 1), (5, 1), (5, 1), (5, 1)]), [9, 0, 1, None])
        self.assertEqual(serving(HOUSE, (), pages, [(FAR, 1), (FAR, 1), (FAR, 1)]), [0, 1, None])
        self.assertEqual(serving(HOUSE, (), pages, [(FAR - 1, 1), (FAR, 1), (0, 1)]), [0, 1, 9])

    def test_the_least_number_whichever_came_first(self):
        pages = [(0, "in", 7, 1, 0, 0, 0), (1, "in", 3, 1, 0, 0, 0), (2, "in", 5, 1, 0, 0, 0)]
        self.assertEqual(serving(HOUSE, (), pages, [(4, 1), (4, 1), (5, 1)]), [3, 5, 7])
        pages += [(9, "out", lot) for lot in (3, 5, 7)]
        self.assertEqual(serving(HOUSE, (), pages, [(4, 1), (4, 1), (5, 1)]), [3, 5, 7])
        pages[-1] = (8, "out", 7)
        self.assertEqual(serving(HOUSE, (), pages, [(4, 1), (4, 1), (5, 1)]), [7, 3, 5])

    def test_ceasing_at_hour_0(self):
        pages = [(0, "in", 0, 0, 0, 30, 0), (0, "in", 1, 0, 0, 0, 0), (0, "out", 1), (0, "in", 2, 0, 0, 0, 0)]
        self.assertEqual(serving(HOUSE, (), pages, [(0, 0), (0, 0)]), [2, None])

    def test_spoilt_as_it_comes(self):
        self.assertEqual(serving(HOUSE, (), [(4, "in", 0, 0, 0, 30, 0)], [(4, 0), (5, 0)]), [None, None])
        self.assertEqual(serving(HOUSE, (), [(4, "in", 0, 0, 0, 29, 0)], [(4, 0), (5, 0)]), [0, None])

    def test_in_and_out_in_one_hour(self):
        self.assertEqual(serving(HOUSE, (), [(4, "in", 0, 0, 0, 0, 0), (4, "out", 0)], [(4, 0)]), [None])

    def test_spoilt_behind_going_out_and_ahead_of_it(self):
        # Lot 0 would be spoilt at 4 in room 3, but goes at 2; lot 1 goes at 9 and is spoilt at 4 already.
        pages = [(0, "in", 0, 0, 3, 0, 0), (0, "in", 1, 0, 3, 0, 0), (2, "out", 0), (9, "out", 1)]
        told = [serving(HOUSE, (), pages, [(hour, 0), (hour, 0)]) for hour in (1, 2, 3, 4, 8)]
        self.assertEqual(told, [[0, 1], [1, None], [1, None], [None, None], [None, None]])

    def test_by_pages_that_do_not_take(self):
        pages = [(0, "in", 0, 0, 0, 0, 0), (0, "in", 1, 1, 0, 0, 0), (1, "out", 1), (2, "in", 0, 0, 0, 30, 0)]
        self.assertEqual(serving(HOUSE, (), pages, [(3, 0), (3, 1)]), [0, None])

    def test_by_the_power_being_out(self):
        pages = [(0, "in", 0, 1, 0, 30, 0)]
        self.assertEqual(serving(HOUSE, (), pages, [(14, 1), (15, 1)]), [0, None])
        self.assertEqual(serving(HOUSE, (), pages, [(15, 1)]), [0])
        self.assertEqual(serving(HOUSE, ((10, 20),), pages, [(14, 1)]), [0])
        self.assertEqual(serving(HOUSE, ((10, 20),), pages, [(15, 1)]), [None])

    def test_hours_of_thirty_figures(self):
        far = 10 ** 30
        pages = [(page[0] + far,) + page[1:] for page in PAGES]
        asks = [(2, 2), (1, 2), (6, 2), (3, 2), (1, 0), (0, 1)]
        late = [(hour + far, kind) for hour, kind in asks]
        self.assertEqual(serving(HOUSE, (), pages, late), serving(*WEEK, asks))
        self.assertEqual(serving(HOUSE, (), pages, asks), [None] * 6)

    def test_against_a_plain_going_through(self):
        for house, outs, pages, asks in weeks(150, 10):
            stays = plain_stays(house, outs, pages)
            told = serving(house, outs, pages, asks)
            self.assertEqual(told, plain_serving(stays, asks))
            self.assertIs(is_serving(house, outs, pages, asks, told), True)

    def test_as_many_met_as_can_be(self):
        for house, outs, pages, asks in weeks(200, 6):
            able = plain_servers(plain_stays(house, outs, pages), asks)
            told = serving(house, outs, pages, asks)
            self.assertEqual(len(asks) - told.count(None), most_met(able))


class Lack(unittest.TestCase):
    def test_none_is_left(self):
        self.assertEqual(lack(*EMPTY, []), ())
        self.assertEqual(lack(*WEEK, [(2, 2), (2, 2), (2, 0)]), ())

    def test_without_lots(self):
        self.assertEqual(lack(*EMPTY, [(0, 0), (0, 2)]), (0, 1))
        self.assertEqual(lack(*WEEK, [(1, 0), (1, 1), (1, 2)]), (1,))

    def test_met_asks_belong_to_it(self):
        # Of kind 0 there is lot 3 alone; each ask lacks by one only together with the met one.
        self.assertEqual(lack(*WEEK, [(1, 0), (2, 2), (3, 0)]), (0, 2))
        self.assertEqual(lack(*WEEK, [(6, 2), (5, 2), (6, 2), (1, 0)]), (0, 2))

    def test_over_several_steps(self):
        # 0, 1, 2 each go out one hour later; each ask but the first takes the lot of the next one.
        pages = [(0, "in", lot, 2, 0, 0, 0) for lot in range(3)] + [(3 + lot, "out", lot) for lot in range(3)]
        asks = [(4, 2), (3, 2), (2, 2), (2, 2)]
        self.assertEqual(serving(HOUSE, (), pages, asks), [None, 2, 0, 1])
        self.assertEqual(lack(HOUSE, (), pages, asks), (0, 1, 2, 3))

    def test_against_the_serving(self):
        left = set()
        for house, outs, pages, asks in weeks(200, 10):
            able = plain_servers(plain_stays(house, outs, pages), asks)
            many = serving(house, outs, pages, asks).count(None)
            told = lack(house, outs, pages, asks)
            self.assertIsInstance(told, tuple)
            self.assertEqual(list(told), sorted(set(told)))
            self.assertEqual(len(told) - len(set().union(*[able[number] for number in told])), many)
            self.assertEqual(told == (), many == 0)
            self.assertIs(is_lack(house, outs, pages, asks, many, told), True)
            self.assertIs(is_lack(house, outs, pages, asks, many + 1, told), False)
            left.add(many)
        self.assertLessEqual({0, 1, 2, 3}, left)


class IsServing(unittest.TestCase):
    ASKS = [(2, 2), (2, 2), (5, 2), (2, 0), (2, 1)]

    def right(self, *things):
        for thing in things:
            self.assertIs(is_serving(*WEEK, self.ASKS, thing), True, thing)

    def wrong(self, *things):
        for thing in things:
            self.assertIs(is_serving(*WEEK, self.ASKS, thing), False, str(thing)[:80])

    def test_right_ones(self):
        self.right([1, 0, 2, 3, None], [None] * 5, [2, 1, 0, 3, None], [None, 2, None, None, None])
        self.right([0, None, 2, None, None], [None, None, 0, None, None])

    def test_a_lot_twice(self):
        self.wrong([1, 1, 2, 3, None], [0, 1, 0, 3, None], [2, None, 2, None, None])

    def test_one_that_may_not_serve(self):
        # Lot 1 is spoilt at 3; lot 3 is of kind 0; 4 and 9 don't come.
        self.wrong([0, 2, 1, 3, None], [3, 0, 2, None, None], [1, 0, 2, 3, 0], [4, None, None, None, None])
        self.wrong([None, None, None, None, 9], [-1, None, None, None, None], [10, None, None, None, None])

    def test_truths_and_texts(self):
        self.wrong([True, None, None, None, None], [None, False, None, None, None], ["1", 0, 2, 3, None])
        self.wrong([None, None, None, None, False], [None, None, None, None, ""], [1, 0, 2, 3, 0 == 1])
        for thing in anything() + [(), []]:
            if thing is not None:
                self.wrong([thing, None, None, None, None], [None, None, None, None, thing], [1, thing, 2, 3, None])

    def test_longer_shorter_and_tuples(self):
        self.wrong([], [1, 0, 2, 3], [1, 0, 2, 3, None, None], (1, 0, 2, 3, None), ([1, 0, 2, 3, None],))
        self.wrong([None] * 4, [None] * 6, (None,) * 5, {0: 1}, dict.fromkeys(range(5)))

    def test_of_anything(self):
        self.wrong((), *anything())
        for thing in [(), *anything()]:
            self.assertIs(is_serving(*EMPTY, [], thing), False)
            self.assertIs(is_serving(*EMPTY, [(0, 0)], thing), thing == [None])
        self.assertIs(is_serving(*EMPTY, [], []), True)

    def test_against_all_ways(self):
        for house, outs, pages, asks in weeks(25, 3):
            able = plain_servers(plain_stays(house, outs, pages), asks)
            for lots in itertools.product([None, *range(6)], repeat=len(asks)):
                some = [lot for lot in lots if lot is not None]
                right = len(set(some)) == len(some) and all(lot in {None} | of for lot, of in zip(lots, able))
                self.assertIs(is_serving(house, outs, pages, asks, list(lots)), right)


class IsLack(unittest.TestCase):
    # The lots that may serve: {1, 0, 2}, {2}, {2}, {3}, none.
    ASKS = [(2, 2), (6, 2), (7, 2), (2, 0), (2, 1)]

    def told(self, many, thing):
        return is_lack(*WEEK, self.ASKS, many, thing)

    def test_just_met_one_more_one_less(self):
        for thing, many in (((), 0), ((0,), -2), ((1,), 0), ((1, 2), 1), ((1, 2, 4), 2), ((0, 1, 2), 0), ((4,), 1),
                            ((3,), 0), ((1, 2, 3), 1), ((0, 1, 2, 3, 4), 1), ((0, 4), -1)):
            hold_just(self, self.told, many, thing)

    def test_out_of_order_and_twice(self):
        for thing in ((2, 1), (1, 1), (1, 2, 2), (4, 1, 2), (0, 1, 2, 3, 4, 4), (4, 4)):
            self.assertIs(self.told(-9, thing), False)

    def test_no_asks_numbers(self):
        for thing in ((-1,), (5,), (1, 5), (-1, 1), (10,), (FAR,), (True,), (False,), (0, True), (1, None), ("1",)):
            self.assertIs(self.told(-9, thing), False)
        for part in [(), [], *anything()]:
            self.assertIs(self.told(-9, (part,)), False)
            self.assertIs(self.told(-9, (0, part)), False)

    def test_lists_and_others_in_the_place_of_tuples(self):
        for thing in ([], [1, 2], {}, {1: 2}, 1, 0, "", "12", *anything()):
            self.assertIs(self.told(-9, thing), False)

    def test_without_asks(self):
        self.assertIs(is_lack(*EMPTY, [], 0, ()), True)
        self.assertIs(is_lack(*EMPTY, [], 1, ()), False)
        self.assertIs(is_lack(*EMPTY, [], -1, (0,)), False)

    def test_no_number(self):
        for many in no_numbers():
            self.assertRaises(NoNumber, self.told, many, (1, 2))
            self.assertRaises(NoNumber, self.told, many, many)

    def test_against_all_lacks(self):
        for house, outs, pages, asks in weeks(60, 4):
            able = plain_servers(plain_stays(house, outs, pages), asks)
            for many in range(len(asks) + 1):
                for numbers in itertools.combinations(range(len(asks)), many):
                    by = many - len(set().union(*[able[number] for number in numbers]))
                    for more in (-1, 0, 1):
                        self.assertIs(is_lack(house, outs, pages, asks, by + more, numbers), more < 1)


class Refusals(unittest.TestCase):
    ERRORS = {0: NoHouse, 1: NoOuts, 2: NoPages, 3: NoAsks}

    def told(self, house, outs, pages, asks):
        given = (house, outs, pages, asks)
        return [(serving, *given), (lack, *given), (is_serving, *given, []), (is_lack, *given, 0, ())]

    def test_which_goes_first(self):
        rights = [HOUSE, (), [], [], 0, ()]
        for given, error in wrong_ways(rights, {**self.ERRORS, 4: NoNumber}):
            self.assertRaises(error, is_lack, *given)
        for given, error in wrong_ways(rights[:4], self.ERRORS):
            self.assertRaises(error, serving, *given)
            self.assertRaises(error, lack, *given)
            self.assertRaises(error, is_serving, *given, given[-1])

    def test_no_asks(self):
        for asks in ((), ((0, 0),), [(0,)], [(0, 0, 0)], [[0, 0]], [(0, 3)], [(0, -1)], [(-1, 0)], [(0, True)],
                     [(False, 0)], [("0", 0)], [(0, None)], [(0, 0), None], [(0, 0)] * 11, [0, 0], {(0, 0): 1}):
            for ask, *given in self.told(HOUSE, (), [], asks):
                self.assertRaises(NoAsks, ask, *given)
        for thing in anything() + [(), []]:
            for asks in ([(0, thing)], [(thing, 0)], [thing], [(0, 0), thing]):
                self.assertRaises(NoAsks, serving, HOUSE, (), [], asks)

    def test_at_the_bounds(self):
        self.assertEqual(serving(*EMPTY, [(0, 0)] * 10), [None] * 10)
        self.assertEqual(serving(*EMPTY, [(FAR, 2), (0, 2)]), [None] * 2)
        self.assertRaises(NoAsks, serving, SMALL, (), [], [(0, 1)])

    def test_pages_and_outs_of_the_house(self):
        for ask, *given in self.told(SMALL, (), [(0, "to", 0, 1)], [(0, 9)]):
            self.assertRaises(NoPages, ask, *given)
        for ask, *given in self.told(SMALL, ((0, 1), (1, 2)), [(0, "to", 0, 1)], []):
            self.assertRaises(NoOuts, ask, *given)


class HandedIn(unittest.TestCase):
    def test_unchanged_and_told_again(self):
        for house, outs, pages, asks in weeks(20, 10):
            kept = copy.deepcopy((pages, asks))
            told = serving(house, outs, pages, asks)
            first = list(told)
            told.append(0)
            self.assertEqual(serving(house, outs, pages, asks), first)
            self.assertEqual(lack(house, outs, pages, asks), lack(house, outs, pages, asks))
            is_serving(house, outs, pages, asks, first)
            is_lack(house, outs, pages, asks, 0, ())
            self.assertEqual((pages, asks), kept)
            asks.append((0, 0))
            self.assertEqual(len(first), len(kept[1]))

    def test_every_order_of_pages_tells_the_same(self):
        chance = random.Random(2)
        for house, outs, pages, asks in weeks(40, 10):
            other = list(pages)
            chance.shuffle(other)
            self.assertEqual(serving(house, outs, other, asks), serving(house, outs, pages, asks))
            self.assertEqual(lack(house, outs, other, asks), lack(house, outs, pages, asks))
