import copy
import itertools
import random
import unittest

from helper import FAR, HOUSE, SMALL, anything, cases, hold_just, hourly, no_numbers, reading, wrong_ways
from rimehold.emptying import are_prices, least, loss
from rimehold.errors import NoEach, NoHour, NoHouse, NoNumber, NoOrder, NoOuts, NoPages

# One kind, spoilt at 10, that gains 4, 3, 2, 1 at the colds 0, 1, 2, 3; hold 1: 1, 2, 3, 4, 4, 4 behind the begin.
PAIR = ((3, 3), ((10, (4, 3, 2, 1)),), (), 1)
TRIO = ((3, 3, 3), PAIR[1], (), 1)
FIVE = ((3, 2, 3, 1, 2), PAIR[1], (), 1)


def plain_lost(house, outs, pages, hour, each):
    """{(room, place): what is lost}, by a sum hour by hour."""
    early = [page for page in pages if page[0] < hour]
    many = len(house[0])
    last = hour + (many - 1) * each
    begin = hour
    for out in outs:
        if out[0] < hour and out[1] > hour:
            begin = out[0]
    rows = hourly(house, tuple(out for out in outs if out[1] <= hour) + ((begin, last + 1),), early, last)
    comings, here = {}, {}
    for page, word, doors, state in reading(house, early):
        here = state
        if (page[1], word) == ("in", "takes"):
            comings[page[2]] = page
    lost = {pair: 0 for pair in itertools.product(range(many), repeat=2)}
    for room, place in lost:
        for lot in [lot for lot in here if here[lot] == room]:
            if rows[lot][hour + place * each] >= house[1][comings[lot][3]][0]:
                lost[room, place] += comings[lot][6]
    return lost


def plain_loss(lost, order):
    return sum(lost[room, place] for place, room in enumerate(order))


def orders(house):
    return list(itertools.permutations(range(len(house[0]))))


def with_worth(chance, pages):
    return [page[:6] + (chance.randint(0, 99),) if page[1] == "in" else page for page in pages]


def storms(many, steps=(1, 2, 3, 7)):
    """Several (house, outs, pages, hour, each), the same ones whenever they are asked."""
    chance = random.Random(13)
    for house, outs, pages in cases(many, 16):
        yield house, outs, with_worth(chance, pages), chance.randint(0, 18), chance.choice(steps)


def full_houses(many):
    """Several (house, outs, pages, hour, each) with ten lots over five rooms, spoilt one behind the other."""
    chance = random.Random(14)
    for turn in range(many):
        rooms = tuple(chance.randint(0, 3) for room in range(5))
        house = (rooms, tuple((chance.randint(10, 60), (7, 4, 2, 1)) for kind in range(4)), (), chance.randint(1, 3))
        pages = [(chance.randint(0, 3), "in", lot, chance.randrange(4), chance.randrange(5), chance.randint(0, 20),
                  chance.randint(1, 99)) for lot in range(10)]
        yield house, ((2, 4),) if turn % 2 else (), pages, 5, chance.randint(1, 4)


class Loss(unittest.TestCase):
    def told(self, pages, outs=(), hour=5, each=1, order=(0, 1), house=PAIR):
        return loss(house, outs, pages, hour, each, order)

    def test_nothing_there(self):
        self.assertEqual(self.told([]), 0)
        self.assertEqual(self.told([], hour=0), 0)

    def test_just_spoilt_and_not_yet(self):
        # Room 1 is emptied at 6: the hour 5 gives 1.
        for ripe, lost in ((2, 0), (3, 7), (4, 7)):
            # 2 in the hour of the door, 1 in each up to 5.
            self.assertEqual(self.told([(0, "in", 0, 0, 1, ripe, 7)]), lost)
        # Room 0 is emptied at once.
        for ripe, lost in ((3, 0), (4, 7), (999, 7)):
            self.assertEqual(self.told([(0, "in", 0, 0, 0, ripe, 7)]), lost)
            self.assertEqual(self.told([(0, "in", 0, 0, 1, ripe, 7)], order=(1, 0)), lost)

    def test_steps(self):
        # Behind the hour 5 it gains 1, 2, 3, 4, 4, 4: with 0 at first it has 6 at 5, and 10 or more from 8 on.
        told = [self.told([(0, "in", 0, 0, 1, 0, 7)], each=each) for each in (1, 2, 3, 98, 99)]
        self.assertEqual(told, [0, 0, 7, 7, 7])
        pages = [(0, "in", 0, 0, 2, 0, 7)]
        self.assertEqual([self.told(pages, each=each, order=(0, 1, 2), house=TRIO) for each in (1, 2)], [0, 7])
        self.assertEqual([self.told(pages, each=each, order=(0, 2, 1), house=TRIO) for each in (1, 2, 3)], [0, 0, 7])

    def test_of_several_lots(self):
        pages = [(0, "in", 0, 0, 0, 9, 7), (0, "in", 1, 0, 0, 0, 80), (0, "in", 2, 0, 1, 3, 11), (0, "in", 3, 0, 1, 9, 2)]
        self.assertEqual(self.told(pages), 7 + 11 + 2)
        self.assertEqual(self.told(pages, order=(1, 0)), 7 + 2)

    def test_pages_of_the_hour_and_behind_it(self):
        ripe = (0, "in", 0, 0, 0, 999, 7)
        for page in ((5, "out", 0), (6, "out", 0), (5, "to", 0, 1), (5, "in", 1, 0, 0, 999, 50), (9, "in", 1, 0, 0, 999, 50)):
            self.assertEqual(self.told([ripe, page]), 7)
        self.assertEqual(self.told([ripe, (4, "out", 0)]), 0)
        self.assertEqual(self.told([ripe, (4, "in", 1, 0, 0, 999, 50)]), 57)
        self.assertEqual(self.told([(5, "in", 0, 0, 0, 999, 7)]), 0)
        self.assertEqual(self.told([(0, "in", 0, 0, 0, 999, 7)], hour=0), 0)
        self.assertEqual(self.told([(0, "in", 0, 0, 0, 999, 7)], hour=1), 7)

    def test_where_a_lot_is_moved_to(self):
        # With 2, or 1 more in the hour of the second door: 10 at 6, or 10 at 5.
        pages = [(0, "in", 0, 0, 0, 2, 7), (4, "to", 0, 1)]
        self.assertEqual([self.told(pages, order=order) for order in ((0, 1), (1, 0))], [7, 0])
        pages[1] = (5, "to", 0, 1)
        self.assertEqual([self.told(pages, order=order) for order in ((0, 1), (1, 0))], [0, 0])

    def test_doors_just_ahead_of_the_hour_and_at_it(self):
        lot = (0, "in", 0, 0, 1, 2, 7)
        self.assertEqual(self.told([lot]), 0)
        self.assertEqual(self.told([lot, (4, "in", 1, 0, 1, 0, 0)]), 7)
        self.assertEqual(self.told([lot, (5, "in", 1, 0, 1, 0, 0)]), 0)

    def test_an_out_under_way_goes_on(self):
        # 6 at the hour 5; then 1 and 2 give 9 at 7, but 2 and 3 of an out that began at 4 give 11, be its end 6 or 7.
        several = ((), ((4, 6),), ((4, 7),), ((4, 99),), ((4, FAR),))
        self.assertEqual([self.told([(0, "in", 0, 0, 1, 0, 7)], outs, each=2) for outs in several], [0, 7, 7, 7, 7])
        # 8 at the hour 5; then 1 gives 9 at 6, but 2 give 10.
        self.assertEqual([self.told([(0, "in", 0, 0, 1, 2, 7)], outs) for outs in several], [0, 7, 7, 7, 7])

    def test_an_out_that_ends_at_the_hour(self):
        # 1, 2, 3 at 2, 3, 4; and then anew 1, 2, 3: at 6 it has 2 + 1 + 6 + 1 more.
        outs = ((2, 5),)
        self.assertEqual(self.told([(0, "in", 0, 0, 1, 0, 7)], outs), 7)
        self.assertEqual(self.told([(0, "in", 0, 0, 0, 0, 7)], outs), 0)
        # Spoilt at 11, it tells the out that begins anew from one that goes on.
        house = ((3, 3), ((11, (4, 3, 2, 1)),), (), 1)
        self.assertEqual(self.told([(0, "in", 0, 0, 1, 0, 7)], outs, house=house), 0)
        self.assertEqual(self.told([(0, "in", 0, 0, 1, 0, 7)], ((2, 6),), house=house), 7)

    def test_an_out_that_ends_one_ahead_of_the_hour(self):
        # 1, 2 at 2, 3, then 1 at 4; and then anew 1: at 6 it has 2 + 1 + 3 + 1 + 1 more.
        for ripe, lost in ((1, 0), (2, 7)):
            self.assertEqual(self.told([(0, "in", 0, 0, 1, ripe, 7)], ((2, 4),)), lost)

    def test_outs_that_begin_at_the_hour_or_behind_it(self):
        for outs in (((5, 6),), ((5, 99),), ((6, 7),), ((6, 99),), ((7, 8), (FAR - 1, FAR))):
            for ripe in range(10):
                for each in (1, 2, 3):
                    pages = [(0, "in", 0, 0, 1, ripe, 7)]
                    self.assertEqual(self.told(pages, outs, each=each), self.told(pages, each=each))

    def test_spoilt_long_ago(self):
        self.assertEqual(self.told([(0, "in", 0, 0, 0, 999, 7)], hour=FAR), 7)
        self.assertEqual(self.told([(0, "in", 0, 0, 0, 0, 7)], hour=FAR), 7)

    def test_hours_of_thirty_figures(self):
        far = 10 ** 30
        for house, outs, pages, hour, each in storms(40):
            late = [(page[0] + far,) + page[1:] for page in pages]
            dark = tuple((begin + far, end + far) for begin, end in outs)
            for order in orders(house)[:6]:
                told = loss(house, outs, pages, hour, each, order)
                self.assertEqual(loss(house, dark, late, hour + far, each, order), told)
            self.assertEqual(least(house, dark, late, hour + far, each), least(house, outs, pages, hour, each))

    def test_an_out_of_thirty_figures_under_way(self):
        far = 10 ** 30
        pages = [(far, "in", 0, 0, 1, 0, 7)]
        # All cold is lost long ago: 4 an hour.
        for hour, lost in ((far + 1, 0), (far + 2, 7)):
            self.assertEqual(self.told(pages, ((3, 2 * far),), hour=hour), lost)

    def test_against_a_sum_hour_by_hour(self):
        losses = set()
        for house, outs, pages, hour, each in storms(250):
            lost = plain_lost(house, outs, pages, hour, each)
            for order in orders(house)[::7]:
                told = loss(house, outs, pages, hour, each, order)
                self.assertEqual(told, plain_loss(lost, order))
                losses.add(told)
        self.assertGreater(len(losses), 50)

    def test_full_houses_against_a_sum_hour_by_hour(self):
        for house, outs, pages, hour, each in full_houses(30):
            lost = plain_lost(house, outs, pages, hour, each)
            for order in orders(house)[::11]:
                self.assertEqual(loss(house, outs, pages, hour, each, order), plain_loss(lost, order))

    def test_steps_of_99_hours_against_a_sum(self):
        for house, outs, pages, hour, each in storms(12, steps=(99,)):
            lost = plain_lost(house, outs, pages, hour, each)
            for order in orders(house)[::20]:
                self.assertEqual(loss(house, outs, pages, hour, each, order), plain_loss(lost, order))


class Least(unittest.TestCase):
    def held(self, house, outs, pages, hour, each):
        told = least(house, outs, pages, hour, each)
        self.assertIsInstance(told, tuple)
        order, (rooms, places) = told
        lost = plain_lost(house, outs, pages, hour, each)
        fewest = min(plain_loss(lost, other) for other in orders(house))
        self.assertIn(order, orders(house))
        self.assertEqual(plain_loss(lost, order), fewest)
        self.assertEqual(loss(house, outs, pages, hour, each, order), fewest)
        for numbers in (rooms, places):
            self.assertIsInstance(numbers, tuple)
            self.assertEqual([isinstance(number, int) for number in numbers], [True] * len(house[0]))
        for room, place in lost:
            self.assertLessEqual(rooms[room] + places[place], lost[room, place])
        self.assertEqual(sum(rooms) + sum(places), fewest)
        for many, right in ((fewest, True), (fewest - 1, True), (fewest + 1, False)):
            self.assertIs(are_prices(house, outs, pages, hour, each, many, told[1]), right)
        return order

    def test_one_room(self):
        self.assertEqual(least(SMALL, (), [], 0, 1), ((0,), ((0,), (0,))))
        self.held(SMALL, (), [(0, "in", 0, 0, 0, 9, 33)], 3, 99)

    def test_the_one_that_is_lost_soonest_goes_first(self):
        # Room 2's is spoilt as the second step is taken, room 0's as the third; room 1 is empty.
        pages = [(0, "in", 0, 0, 0, 1, 50), (0, "in", 1, 0, 2, 3, 60)]
        self.assertEqual(self.held(TRIO, (), pages, 5, 1), (2, 0, 1))
        self.assertEqual(loss(TRIO, (), pages, 5, 1, (2, 0, 1)), 0)

    def test_the_dearest_goes_first(self):
        pages = [(0, "in", 0, 0, 0, 3, 50), (0, "in", 1, 0, 1, 3, 60), (0, "in", 2, 0, 2, 3, 70)]
        order = self.held(TRIO, (), pages, 5, 1)
        self.assertEqual(order[0], 2)
        self.assertEqual(loss(TRIO, (), pages, 5, 1, order), 110)

    def test_against_all_orders(self):
        for storm in storms(250):
            self.held(*storm)

    def test_against_all_orders_of_full_houses(self):
        firsts = set()
        for storm in full_houses(150):
            firsts.add(self.held(*storm))
        self.assertGreater(len(firsts), 40)

    def test_steps_of_99_hours(self):
        for storm in storms(12, steps=(99,)):
            self.held(*storm)


class ArePrices(unittest.TestCase):
    # What is lost of the rooms at the places: (0, 0, 50), (0, 0, 0), (0, 60, 60).
    STORM = (TRIO, (), [(0, "in", 0, 0, 0, 1, 50), (0, "in", 1, 0, 2, 3, 60)], 5, 1)
    ZERO = ((0, 0, 0), (0, 0, 0))

    def told(self, many, thing):
        return are_prices(*self.STORM, many, thing)

    def test_what_is_lost(self):
        lost = plain_lost(*self.STORM)
        self.assertEqual([lost[pair] for pair in sorted(lost)], [0, 0, 50, 0, 0, 0, 0, 60, 60])

    def test_just_met_one_more_one_less(self):
        for thing, many in ((self.ZERO, 0), (((-5, 0, 0), (0, 0, 0)), -5), (((0, 0, 7), (-7, 0, 0)), 0),
                            (((0, 0, 60), (-60, 0, 0)), 0), (((50, 0, 0), (-50, -50, 0)), -50),
                            (((-FAR, -FAR, -FAR), (FAR, FAR, FAR)), 0)):
            hold_just(self, self.told, many, thing)

    def test_one_too_great(self):
        for place in range(3):
            one = tuple(int(at == place) for at in range(3))
            self.assertIs(self.told(-9, (one, (0, 0, 0))), False)
            self.assertIs(self.told(-9, ((0, 0, 0), one)), False)
            self.assertIs(self.told(-9, (one, (-1, -1, -1))), True)
        self.assertIs(self.told(-99, ((0, 0, 60), (-60, 0, 0))), True)
        self.assertIs(self.told(-99, ((0, 0, 61), (-60, 0, 0))), False)
        self.assertIs(self.told(-99, ((0, 0, 61), (-61, 0, 0))), False)
        self.assertIs(self.told(-99, ((0, 0, 61), (-61, -1, -1))), True)

    def test_rooms_stand_ahead_of_places(self):
        self.assertIs(self.told(-999, ((-60, 0, 0), (0, 0, 60))), False)
        self.assertIs(self.told(-999, ((0, -60, 0), (-60, 0, 50))), True)
        self.assertIs(self.told(-999, ((-60, 0, 50), (0, -60, 0))), False)

    def test_longer_shorter_and_lists(self):
        for thing in ([(0, 0, 0), (0, 0, 0)], ([0, 0, 0], (0, 0, 0)), ((0, 0, 0), [0, 0, 0]), ((0, 0, 0),),
                      ((0, 0, 0), (0, 0, 0), (0, 0, 0)), ((0, 0), (0, 0, 0)), ((0, 0, 0), (0, 0)),
                      ((0, 0, 0, 0), (0, 0, 0)), ((0, 0, 0), (0, 0, 0, 0)), ((), ()), (0, 0, 0), (0, 0, 0, 0, 0, 0), ()):
            self.assertIs(self.told(-9, thing), False)

    def test_truths_and_others(self):
        for part in [False, True, None, "0", "", (), [], (0,), *no_numbers()]:
            for at in range(3):
                numbers = (0,) * at + (part,) + (0,) * (2 - at)
                self.assertIs(self.told(-9, (numbers, (0, 0, 0))), False)
                self.assertIs(self.told(-9, ((0, 0, 0), numbers)), False)

    def test_of_anything(self):
        for thing in [(), [], 0, *anything()]:
            self.assertIs(self.told(-9, thing), False)
            self.assertIs(self.told(-9, (thing, (0, 0, 0))), False)
            self.assertIs(self.told(-9, ((0, 0, 0), thing)), False)
            self.assertIs(are_prices(SMALL, (), [], 0, 1, -9, thing), False)

    def test_no_number(self):
        for many in no_numbers():
            self.assertRaises(NoNumber, self.told, many, self.ZERO)
            self.assertRaises(NoNumber, self.told, many, many)

    def test_against_what_is_lost(self):
        chance = random.Random(15)
        seen = set()
        for storm in full_houses(60):
            lost = plain_lost(*storm)
            rooms, places = least(*storm)[1]
            for turn in range(10):
                some = tuple(number + chance.choice([0, 0, 0, 0, -1, 1, -9, 9]) for number in rooms)
                right = all(some[room] + places[place] <= lost[room, place] for room, place in lost)
                seen.add(right)
                many = sum(some) + sum(places)
                self.assertIs(are_prices(*storm, many, (some, places)), right)
                self.assertIs(are_prices(*storm, many + 1, (some, places)), False)
        self.assertEqual(seen, {True, False})


class Refusals(unittest.TestCase):
    ERRORS = {0: NoHouse, 1: NoOuts, 2: NoPages, 3: NoHour, 4: NoEach}
    RIGHTS = [PAIR, (), [], 0, 1]

    def told(self, *given):
        return [(loss, *given, (0, 1)), (least, *given), (are_prices, *given, 0, ((0, 0), (0, 0)))]

    def test_which_goes_first(self):
        for given, error in wrong_ways(self.RIGHTS + [(0, 1)], {**self.ERRORS, 5: NoOrder}):
            self.assertRaises(error, loss, *given)
        for given, error in wrong_ways(self.RIGHTS, self.ERRORS):
            self.assertRaises(error, least, *given)
        for given, error in wrong_ways(self.RIGHTS + [0, ()], {**self.ERRORS, 5: NoNumber}):
            self.assertRaises(error, are_prices, *given)

    def test_no_hour(self):
        for hour in ((), [], -1, True):
            for ask, *given in self.told(PAIR, (), [], hour, 0):
                self.assertRaises(NoHour, ask, *given)

    def test_no_each(self):
        for each in (0, 100, FAR, -1, True, False, (), [], [1], "1", None):
            for ask, *given in self.told(PAIR, (), [], 0, each):
                self.assertRaises(NoEach, ask, *given)
        for each in (1, 99):
            for ask, *given in self.told(PAIR, (), [], 0, each):
                ask(*given)

    def test_no_order(self):
        for order in ((), (0,), (0, 0), (1, 1), (0, 1, 0), (0, 1, 2), (0, 2), (-1, 0), (1, 2), [0, 1], (0, True), (False, 1),
                      ("0", 1), (0, None), (0, (1,)), {0: 1, 1: 0}, 0):
            self.assertRaises(NoOrder, loss, PAIR, (), [], 0, 1, order)
        for thing in [(), [], *anything()]:
            self.assertRaises(NoOrder, loss, PAIR, (), [], 0, 1, (0, thing))
            self.assertRaises(NoOrder, loss, PAIR, (), [], 0, 1, (thing, 1))
        self.assertRaises(NoOrder, loss, FIVE, (), [], 0, 1, (0, 1, 2, 3, 3))
        self.assertEqual(loss(FIVE, (), [], 0, 1, (4, 3, 2, 1, 0)), 0)
        self.assertEqual(loss(SMALL, (), [], 0, 1, (0,)), 0)

    def test_pages_and_outs_of_the_house(self):
        for ask, *given in self.told(PAIR, (), [(0, "to", 0, 2)], -1, 1):
            self.assertRaises(NoPages, ask, *given)
        for ask, *given in self.told(PAIR, ((0, 1), (1, 2)), [(0, "to", 0, 2)], 0, 1):
            self.assertRaises(NoOuts, ask, *given)


class HandedIn(unittest.TestCase):
    def test_unchanged_and_told_again(self):
        for house, outs, pages, hour, each in full_houses(20):
            kept = copy.deepcopy(pages)
            order, prices = least(house, outs, pages, hour, each)
            self.assertEqual(least(house, outs, pages, hour, each), (order, prices))
            self.assertEqual(loss(house, outs, pages, hour, each, order), loss(house, outs, pages, hour, each, order))
            are_prices(house, outs, pages, hour, each, 0, prices)
            self.assertEqual(pages, kept)
            self.assertEqual(loss(house, outs, pages[::-1], hour, each, order), loss(house, outs, pages, hour, each, order))
