import copy
import random
import unittest

from helper import FAR, HOUSE, SMALL, anything, cases, hourly, reading
from rimehold.errors import NoHour, NoHouse, NoLot, NoOuts, NoPages
from rimehold.ripening import ripeness, spoilt, spoilt_at, turns

LAST = 40


def course(pages, outs=(), house=HOUSE, lot=0, last=8):
    return [ripeness(house, outs, pages, lot, hour) for hour in range(last + 1)]


class Ripeness(unittest.TestCase):
    def test_none_ahead_of_the_coming(self):
        self.assertEqual(course([(3, "in", 0, 0, 1, 5, 0)])[:4], [None, None, None, 5])
        self.assertEqual(course([]), [None] * 9)
        self.assertEqual(course([(0, "in", 1, 0, 1, 5, 0)]), [None] * 9)

    def test_none_where_the_in_does_not_take(self):
        pages = [(0, "in", 0, 0, 0, 0, 0), (1, "in", 1, 1, 0, 7, 0)]
        self.assertEqual(course(pages, lot=1), [None] * 9)

    def test_the_in_opens_the_door(self):
        self.assertEqual(course([(1, "in", 0, 0, 0, 2, 0)], last=5), [None, 2, 5, 6, 7, 8])
        # Room 3 is of cold 0: it gets no warmer.
        self.assertEqual(course([(1, "in", 0, 0, 3, 2, 0)], last=4), [None, 2, 11, 20, 29])

    def test_a_door_opened_by_another_lot(self):
        first = (0, "in", 0, 0, 0, 0, 0)
        self.assertEqual(course([first, (2, "in", 1, 0, 0, 0, 0)], last=5), [0, 3, 4, 7, 8, 9])
        self.assertEqual(course([first, (2, "in", 1, 0, 1, 0, 0)], last=5), [0, 3, 4, 5, 6, 7])
        twice = [first, (2, "in", 1, 0, 0, 0, 0), (2, "in", 2, 0, 0, 0, 0), (2, "out", 1)]
        self.assertEqual(course(twice, last=5), [0, 3, 4, 7, 8, 9])

    def test_out_opens_the_door_it_goes_through(self):
        pages = [(0, "in", 0, 0, 0, 0, 0), (0, "in", 1, 0, 0, 0, 0), (2, "out", 1)]
        self.assertEqual(course(pages, last=5), [0, 3, 4, 7, 8, 9])

    def test_to_opens_both_doors(self):
        pages = [(0, "in", 0, 0, 0, 0, 0), (0, "in", 1, 0, 1, 0, 0), (0, "in", 2, 0, 0, 0, 0), (2, "to", 2, 1)]
        self.assertEqual(course(pages, lot=0, last=5), [0, 3, 4, 7, 8, 9])
        self.assertEqual(course(pages, lot=1, last=5), [0, 6, 9, 15, 18, 21])
        self.assertEqual(course(pages, lot=2, last=5), [0, 3, 4, 10, 13, 16])

    def test_a_page_that_does_not_take_opens_no_door(self):
        pages = [(0, "in", 0, 0, 0, 0, 0), (2, "in", 1, 1, 0, 0, 0), (2, "to", 0, 0), (3, "out", 1)]
        self.assertEqual(course(pages, last=5), [0, 3, 4, 5, 6, 7])

    def test_a_room_gone_through_within_an_hour(self):
        pages = [(0, "in", 0, 0, 0, 0, 0), (0, "in", 1, 0, 1, 0, 0), (2, "to", 0, 1), (2, "to", 0, 2)]
        self.assertEqual(course(pages, lot=1, last=4), [0, 6, 9, 15, 18])
        self.assertEqual(course(pages, lot=0, last=4), [0, 3, 4, 13, 19])

    def test_stays_behind_going_out(self):
        pages = [(0, "in", 0, 0, 0, 0, 0), (3, "out", 0)]
        self.assertEqual(course(pages, last=7), [0, 3, 4, 5, 5, 5, 5, 5])
        self.assertEqual(ripeness(HOUSE, (), pages, 0, FAR), 5)

    def test_in_and_out_in_one_hour(self):
        self.assertEqual(course([(2, "in", 0, 0, 0, 8, 0), (2, "out", 0)], last=4), [None, None, 8, 8, 8])

    def test_outs(self):
        pages = [(0, "in", 0, 0, 0, 0, 0)]
        self.assertEqual(course(pages, ((2, 9),), last=11), [0, 3, 4, 5, 6, 9, 12, 18, 24, 33, 34, 35])

    def test_door_and_out_together(self):
        pages = [(0, "in", 0, 0, 0, 0, 0), (4, "in", 1, 0, 0, 0, 0), (8, "in", 2, 0, 0, 0, 0)]
        self.assertEqual(course(pages, ((2, 10),), last=10), [0, 3, 4, 5, 6, 12, 15, 21, 27, 36, 45])

    def test_it_grows_beyond_the_limit(self):
        self.assertEqual(course([(0, "in", 0, 0, 3, 999, 0)], last=3), [999, 1008, 1017, 1026])

    def test_against_a_sum_hour_by_hour(self):
        for house, outs, pages in cases(150, 24):
            rows = hourly(house, outs, pages, LAST)
            for lot in range(6):
                self.assertEqual(course(pages, outs, house, lot, LAST), rows[lot])

    def test_hours_of_forty_figures(self):
        pages = [(0, "in", 0, 0, 0, 0, 0)]
        self.assertEqual(ripeness(HOUSE, (), pages, 0, FAR), 3 + FAR - 1)
        # One hour of the door, one at 3; two each at 3, 2, 1; then 0 until the end of the out; then 3 again.
        outs = ((2, FAR - 10),)
        self.assertEqual(ripeness(HOUSE, outs, pages, 0, FAR), 3 + 1 + 2 + 6 + 12 + 9 * (FAR - 18) + 10)
        late = [(FAR, "in", 0, 0, 0, 4, 0)]
        self.assertEqual(ripeness(HOUSE, outs, late, 0, FAR), 4)
        self.assertIsNone(ripeness(HOUSE, outs, late, 0, FAR - 1))

    def test_a_shift_of_all_hours_changes_nothing(self):
        far = 10 ** 39
        for house, outs, pages in cases(60, 24):
            late = [(page[0] + far,) + page[1:] for page in pages]
            dark = tuple((begin + far, end + far) for begin, end in outs)
            for lot in range(5):
                for hour in (0, 7, 30):
                    self.assertEqual(ripeness(house, dark, late, lot, hour + far), ripeness(house, outs, pages, lot, hour))
                told = spoilt_at(house, outs, pages, lot)
                self.assertEqual(spoilt_at(house, dark, late, lot), None if told is None else told + far)


class SpoiltAt(unittest.TestCase):
    def test_the_hour_itself(self):
        # 30 is the limit; room 1 gives 6 in the first hour, 3 in each behind it.
        self.assertEqual(spoilt_at(HOUSE, (), [(0, "in", 0, 0, 1, 0, 0)], 0), 9)
        self.assertEqual(spoilt_at(HOUSE, (), [(0, "in", 0, 0, 1, 1, 0)], 0), 9)
        self.assertEqual(spoilt_at(HOUSE, (), [(0, "in", 0, 0, 1, 3, 0)], 0), 8)
        self.assertEqual(spoilt_at(HOUSE, (), [(0, "in", 0, 0, 1, 24, 0)], 0), 1)

    def test_spoilt_as_it_comes(self):
        self.assertEqual(spoilt_at(HOUSE, (), [(7, "in", 0, 0, 1, 30, 0)], 0), 7)
        self.assertEqual(spoilt_at(HOUSE, (), [(7, "in", 0, 0, 1, 999, 0)], 0), 7)
        self.assertEqual(spoilt_at(HOUSE, (), [(7, "in", 0, 0, 1, 29, 0)], 0), 8)
        self.assertEqual(spoilt_at(HOUSE, (), [(7, "in", 0, 0, 1, 30, 0), (7, "out", 0)], 0), 7)

    def test_none(self):
        self.assertIsNone(spoilt_at(HOUSE, (), [], 0))
        self.assertIsNone(spoilt_at(HOUSE, (), [(0, "in", 1, 0, 0, 0, 0)], 0))
        # Kind 1 gains 0 at the cold 3.
        self.assertIsNone(spoilt_at(HOUSE, (), [(0, "in", 0, 1, 0, 0, 0)], 0))

    def test_going_out_ahead_of_it_at_it_and_behind_it(self):
        pages = [(0, "in", 0, 0, 1, 0, 0)]
        self.assertIsNone(spoilt_at(HOUSE, (), pages + [(8, "out", 0)], 0))
        self.assertEqual(spoilt_at(HOUSE, (), pages + [(9, "out", 0)], 0), 9)
        self.assertEqual(spoilt_at(HOUSE, (), pages + [(10, "out", 0)], 0), 9)

    def test_by_an_out_alone(self):
        pages = [(0, "in", 0, 1, 0, 30, 0)]
        # 32 behind the door's hour; two hours at 2 give 4, one at 1 gives 5.
        self.assertEqual(spoilt_at(HOUSE, ((10, 20),), pages, 0), 15)
        self.assertIsNone(spoilt_at(HOUSE, ((10, 14),), pages, 0))
        self.assertEqual(spoilt_at(HOUSE, ((10, 15),), pages, 0), 15)

    def test_far_on(self):
        pages = [(0, "in", 0, 1, 0, 0, 0), (FAR, "to", 0, 1)]
        # 2 in the first hour, 5 in the one of the moving, 2 in each behind it.
        self.assertEqual(spoilt_at(HOUSE, (), pages, 0), FAR + 1 + 17)

    def test_against_a_sum_hour_by_hour(self):
        last = 150
        for house, outs, pages in cases(100, 24):
            rows = hourly(house, outs, pages, last)
            kinds = {page[2]: page[3] for page, word, doors, here in reading(house, pages)
                     if (page[1], word) == ("in", "takes")}
            for lot in range(6):
                hours = [hour for hour, ripe in enumerate(rows[lot])
                         if ripe is not None and ripe >= house[1][kinds[lot]][0]]
                told = spoilt_at(house, outs, pages, lot)
                if hours:
                    self.assertEqual(told, hours[0])
                else:
                    self.assertTrue(told is None or told > last)


class Turns(unittest.TestCase):
    def test_in_turn(self):
        pages = [(0, "in", 0, 0, 0, 9, 0), (0, "in", 1, 0, 0, 8, 0), (3, "out", 0), (4, "out", 1)]
        self.assertEqual(turns(HOUSE, (), pages), [])
        self.assertEqual(turns(HOUSE, (), []), [])

    def test_out_of_turn(self):
        pages = [(0, "in", 0, 0, 0, 8, 0), (0, "in", 1, 0, 0, 9, 0), (3, "out", 0), (4, "out", 1)]
        self.assertEqual(turns(HOUSE, (), pages), [((3, "out", 0), 1)])

    def test_like_ripeness_is_no_elder(self):
        pages = [(0, "in", 0, 0, 0, 8, 0), (0, "in", 1, 0, 0, 8, 0), (3, "out", 0)]
        self.assertEqual(turns(HOUSE, (), pages), [])

    def test_other_kinds_do_not_wait(self):
        pages = [(0, "in", 0, 0, 0, 8, 0), (0, "in", 1, 2, 0, 99, 0), (3, "out", 0)]
        self.assertEqual(turns(HOUSE, (), pages), [])

    def test_several_elders(self):
        pages = [(0, "in", lot, 2, 0, ripe, 0) for lot, ripe in enumerate([5, 7, 9, 9, 6])]
        self.assertEqual(turns(HOUSE, (), pages + [(2, "out", 0)]), [((2, "out", 0), 2)])
        self.assertEqual(turns(HOUSE, (), pages + [(2, "out", 2)]), [])
        self.assertEqual(turns(HOUSE, (), pages + [(2, "out", 2), (3, "out", 0)]), [((3, "out", 0), 3)])

    def test_like_elders_whichever_came_first(self):
        pages = [(0, "in", 5, 2, 0, 5, 0), (0, "in", 4, 2, 0, 9, 0), (1, "in", 3, 2, 0, 11, 0), (3, "out", 5)]
        self.assertEqual([ripeness(HOUSE, (), pages, lot, 3) for lot in (3, 4)], [14, 14])
        self.assertEqual(turns(HOUSE, (), pages), [((3, "out", 5), 3)])
        pages[2] = (1, "in", 3, 2, 0, 10, 0)
        self.assertEqual(turns(HOUSE, (), pages), [((3, "out", 5), 4)])

    def test_who_is_there_as_it_goes(self):
        pages = [(0, "in", 0, 2, 0, 5, 0), (0, "in", 1, 2, 0, 7, 0)]
        # Lot 0 is read first, so lot 1 still waits; the other way round it is gone.
        self.assertEqual(turns(HOUSE, (), pages + [(2, "out", 0), (2, "out", 1)]), [((2, "out", 0), 1)])
        pages = [(0, "in", 1, 2, 0, 5, 0), (0, "in", 0, 2, 0, 7, 0)]
        self.assertEqual(turns(HOUSE, (), pages + [(2, "out", 0), (2, "out", 1)]), [])
        # One that comes in the same hour waits already.
        pages = [(0, "in", 0, 2, 0, 5, 0), (2, "in", 1, 2, 0, 100, 0), (2, "out", 0)]
        self.assertEqual(turns(HOUSE, (), pages), [((2, "out", 0), 1)])
        pages[1] = (3, "in", 1, 2, 0, 100, 0)
        self.assertEqual(turns(HOUSE, (), pages), [])

    def test_ripeness_at_that_hour_and_not_as_it_came(self):
        pages = [(0, "in", 0, 2, 0, 5, 0), (0, "in", 1, 2, 3, 3, 0), (1, "out", 0)]
        # At hour 1: 5 + 2 against 3 + 4; one hour on lot 1 is the elder.
        self.assertEqual(turns(HOUSE, (), pages), [])
        pages[2] = (2, "out", 0)
        self.assertEqual(turns(HOUSE, (), pages), [((2, "out", 0), 1)])

    def test_outs_that_do_not_take(self):
        pages = [(0, "in", 1, 2, 0, 9, 0), (2, "out", 0), (3, "out", 2)]
        self.assertEqual(turns(HOUSE, (), pages), [])

    def test_by_the_power_being_out(self):
        pages = [(0, "in", 0, 0, 0, 5, 0), (0, "in", 1, 0, 1, 0, 0), (4, "out", 0)]
        self.assertEqual(turns(HOUSE, (), pages), [((4, "out", 0), 1)])
        pages[0] = (0, "in", 0, 0, 0, 9, 0)
        self.assertEqual(turns(HOUSE, (), pages), [])
        self.assertEqual(turns(((3, 2), HOUSE[1], (), 1), ((1, 4),), pages), [((4, "out", 0), 1)])

    def test_against_a_sum_hour_by_hour(self):
        for house, outs, pages in cases(200, 12):
            rows = hourly(house, outs, pages, LAST)
            kinds, here, told = {}, {}, []
            for page, word, doors, state in reading(house, pages):
                if (page[1], word) == ("in", "takes"):
                    kinds[page[2]] = page[3]
                if (page[1], word) == ("out", "takes"):
                    ripe = {lot: rows[lot][page[0]] for lot in here if kinds[lot] == kinds[page[2]]}
                    elders = [lot for lot in ripe if ripe[lot] > ripe[page[2]]]
                    if elders:
                        told.append((page, sorted(elders, key=lambda lot: (-ripe[lot], lot))[0]))
                here = state
            self.assertEqual(turns(house, outs, pages), told)

    def test_order_of_pages(self):
        pages = [(0, "in", lot, 2, 0, lot, 0) for lot in range(5)] + [(2, "out", 1), (2, "out", 0), (1, "out", 2)]
        told = [((1, "out", 2), 4), ((2, "out", 0), 4), ((2, "out", 1), 4)]
        chance = random.Random(1)
        for turn in range(20):
            chance.shuffle(pages)
            self.assertEqual(turns(HOUSE, (), pages), told)


class Spoilt(unittest.TestCase):
    def test_at_the_limit_and_just_below_it(self):
        # 6 in the first hour, 3 in each behind it: 30 at hour 9, with 29 at the hour 8 where it came with 2.
        coming = (0, "in", 0, 0, 1, 0, 0)
        self.assertEqual(spoilt(HOUSE, (), [coming, (9, "out", 0)]), [0])
        self.assertEqual(spoilt(HOUSE, (), [coming, (8, "out", 0)]), [])
        self.assertEqual(spoilt(HOUSE, (), [(0, "in", 0, 0, 1, 2, 0), (8, "out", 0)]), [])
        self.assertEqual(spoilt(HOUSE, (), [(0, "in", 0, 0, 1, 3, 0), (8, "out", 0)]), [0])

    def test_as_it_comes(self):
        self.assertEqual(spoilt(HOUSE, (), [(1, "in", 0, 0, 1, 30, 0), (1, "out", 0)]), [0])
        self.assertEqual(spoilt(HOUSE, (), [(1, "in", 0, 0, 1, 29, 0), (1, "out", 0)]), [])

    def test_only_those_that_went_out(self):
        self.assertEqual(spoilt(HOUSE, (), [(0, "in", 0, 0, 1, 999, 0)]), [])
        self.assertEqual(spoilt(HOUSE, (), []), [])

    def test_rising(self):
        pages = [(0, "in", lot, 0, 1, 30, 0) for lot in (7, 3, 5)] + [(2, "out", 7), (3, "out", 5), (4, "out", 3)]
        self.assertEqual(spoilt(HOUSE, (), pages), [3, 5, 7])

    def test_by_the_power_being_out(self):
        pages = [(0, "in", 0, 1, 0, 30, 0), (15, "out", 0)]
        self.assertEqual(spoilt(HOUSE, (), pages), [])
        self.assertEqual(spoilt(HOUSE, ((10, 20),), pages), [0])

    def test_against_a_sum_hour_by_hour(self):
        for house, outs, pages in cases(200, 24):
            rows = hourly(house, outs, pages, LAST)
            kinds, lots = {}, []
            for page, word, doors, here in reading(house, pages):
                if (page[1], word) == ("in", "takes"):
                    kinds[page[2]] = page[3]
                if (page[1], word) == ("out", "takes") and rows[page[2]][page[0]] >= house[1][kinds[page[2]]][0]:
                    lots.append(page[2])
            self.assertEqual(spoilt(house, outs, pages), sorted(lots))


class Refusals(unittest.TestCase):
    def asks(self, house, outs, pages, lot, hour):
        return [(ripeness, house, outs, pages, lot, hour), (spoilt_at, house, outs, pages, lot),
                (turns, house, outs, pages), (spoilt, house, outs, pages)]

    def test_which_goes_first(self):
        for thing in anything():
            with self.subTest(thing=str(thing)[:80]):
                for ask, *given in self.asks(thing, thing, thing, thing, thing):
                    self.assertRaises(NoHouse, ask, *given)
                for ask, *given in self.asks(HOUSE, thing, thing, thing, thing):
                    self.assertRaises(NoOuts, ask, *given)
                for ask, *given in self.asks(HOUSE, (), thing, thing, thing):
                    self.assertRaises(NoPages, ask, *given)
                for ask, *given in self.asks(HOUSE, (), [], thing, thing)[:2]:
                    self.assertRaises(NoLot, ask, *given)
                self.assertRaises(NoHour, ripeness, HOUSE, (), [], 0, thing)

    def test_lot_at_its_bounds(self):
        for lot in (0, 9):
            self.assertIsNone(ripeness(HOUSE, (), [], lot, 0))
            self.assertIsNone(spoilt_at(HOUSE, (), [], lot))
        for lot in (-1, 10, FAR, (), []):
            self.assertRaises(NoLot, ripeness, HOUSE, (), [], lot, 0)
            self.assertRaises(NoLot, spoilt_at, HOUSE, (), [], lot)

    def test_kind_of_pages_and_outs(self):
        for ask, *given in self.asks(SMALL, (), [(0, "to", 0, 1)], 0, 0):
            self.assertRaises(NoPages, ask, *given)
        for ask, *given in self.asks(SMALL, ((0, 1), (1, 2)), [], 0, 0):
            self.assertRaises(NoOuts, ask, *given)


class HandedIn(unittest.TestCase):
    PAGES = [(4, "out", 0), (0, "in", 1, 0, 1, 30, 0), (0, "in", 0, 0, 1, 25, 0), (3, "to", 1, 2), (6, "out", 1)]

    def test_unchanged_and_told_again(self):
        pages = list(self.PAGES)
        kept = copy.deepcopy(pages)
        for ask in (turns, spoilt):
            told = ask(HOUSE, ((1, 3),), pages)
            first = list(told)
            self.assertTrue(first)
            told.append("more")
            self.assertEqual(ask(HOUSE, ((1, 3),), pages), first)
            self.assertEqual(pages, kept)
        for ask in (lambda: ripeness(HOUSE, ((1, 3),), pages, 1, 9), lambda: spoilt_at(HOUSE, ((1, 3),), pages, 1)):
            self.assertEqual(ask(), ask())
            self.assertEqual(pages, kept)

    def test_every_order_tells_the_same(self):
        chance = random.Random(5)
        for house, outs, pages in cases(40, 24):
            other = list(pages)
            chance.shuffle(other)
            self.assertEqual(turns(house, outs, other), turns(house, outs, pages))
            self.assertEqual(spoilt(house, outs, other), spoilt(house, outs, pages))
            for lot in range(5):
                self.assertEqual(spoilt_at(house, outs, other, lot), spoilt_at(house, outs, pages, lot))
                self.assertEqual(ripeness(house, outs, other, lot, 20), ripeness(house, outs, pages, lot, 20))
