import copy
import itertools
import random
import unittest

from helper import FAR, HOUSE, SMALL, anything, cases, reading
from rimehold.errors import NoHour, NoHouse, NoPages
from rimehold.pages import outcomes, places

IN = (5, "in", 0, 0, 0, 0, 0)
OUT = (5, "out", 0)
TO = (5, "to", 0, 1)


def words(pages, house=HOUSE):
    return [word for page, word in outcomes(house, pages)]


def with_part(page, place, part):
    return page[:place] + (part,) + page[place + 1:]


class ArePages(unittest.TestCase):
    def right(self, *pages):
        for page in pages:
            with self.subTest(page=page):
                self.assertEqual(len(outcomes(HOUSE, [page])), 1)

    def refused(self, *things):
        for thing in things:
            with self.subTest(thing=str(thing)[:80]):
                self.assertRaises(NoPages, outcomes, HOUSE, thing)
                self.assertRaises(NoPages, places, HOUSE, thing, 0)

    def test_numbers_at_their_bounds(self):
        for page, tops in ((IN, {0: FAR, 2: 9, 3: 2, 4: 3, 5: 999, 6: 99}), (OUT, {0: FAR, 2: 9}),
                           (TO, {0: FAR, 2: 9, 3: 3})):
            for place, top in tops.items():
                self.right(with_part(page, place, 0), with_part(page, place, top))
                self.refused([with_part(page, place, -1)])
                if place > 0:
                    self.refused([with_part(page, place, top + 1)])

    def test_each_part_of_anything(self):
        for thing in [(), [], *anything()]:
            for page in (IN, OUT, TO):
                for place in [at for at in range(len(page)) if (at, thing) != (1, "in") or page != IN]:
                    self.refused([with_part(page, place, thing)])

    def test_of_anything(self):
        self.refused((), (IN,), 0, 1, IN, *anything())
        for thing in anything():
            self.refused([thing], [IN, thing], [thing, IN])

    def test_form(self):
        self.refused([list(IN)], [IN[:6]], [IN + (0,)], [OUT + (0,)], [OUT[:2]], [TO[:3]], [TO + (0,)], [()])
        self.refused([(5, "in", 0)], [(5, "out", 0, 0)], [(5, "IN") + IN[2:]], [(5, "off", 0)], [("out", 5, 0)])

    def test_kind_and_room_are_the_houses(self):
        for page in ((0, "in", 0, 1, 0, 0, 0), (0, "in", 0, 0, 1, 0, 0), (0, "to", 0, 1)):
            self.assertRaises(NoPages, outcomes, SMALL, [page])

    def test_sixteen_and_seventeen(self):
        pages = [(hour, "out", 0) for hour in range(17)]
        self.assertEqual(words(pages[:16]), ["none"] * 16)
        self.refused(pages)

    def test_two_alike(self):
        self.refused([IN, IN], [IN, OUT, IN], [OUT, TO, IN, OUT], [TO, TO])
        self.assertEqual(words([IN, with_part(IN, 6, 1)]), ["takes", "there"])

    def test_no_house_goes_first(self):
        for thing in anything():
            self.assertRaises(NoHouse, outcomes, thing, thing)
            self.assertRaises(NoHouse, places, thing, thing, thing)
            self.assertRaises(NoPages, places, HOUSE, thing, thing)


class Outcomes(unittest.TestCase):
    def test_none(self):
        self.assertEqual(outcomes(HOUSE, []), [])

    def test_takes(self):
        pages = [(1, "in", 0, 0, 0, 0, 0), (2, "to", 0, 1), (3, "out", 0)]
        self.assertEqual(outcomes(HOUSE, pages), [(page, "takes") for page in pages])

    def test_there(self):
        self.assertEqual(words([(1, "in", 0, 0, 0, 0, 0), (2, "in", 0, 1, 1, 5, 5)]), ["takes", "there"])

    def test_there_when_gone_out(self):
        pages = [(1, "in", 0, 0, 0, 0, 0), (2, "out", 0), (3, "in", 0, 0, 0, 0, 0)]
        self.assertEqual(words(pages), ["takes", "takes", "there"])

    def test_there_goes_ahead_of_apart(self):
        pages = [(1, "in", 0, 0, 0, 0, 0), (1, "in", 1, 0, 1, 0, 0), (2, "in", 1, 1, 0, 0, 0)]
        self.assertEqual(words(pages), ["takes", "takes", "there"])

    def test_none_of_out_and_to(self):
        self.assertEqual(words([(1, "out", 0), (1, "to", 0, 0)]), ["none", "none"])
        pages = [(1, "in", 0, 0, 0, 0, 0), (2, "out", 0), (3, "out", 0), (3, "to", 0, 0), (3, "to", 0, 1)]
        self.assertEqual(words(pages), ["takes", "takes", "none", "none", "none"])

    def test_same(self):
        pages = [(1, "in", 0, 0, 2, 0, 0), (2, "to", 0, 2), (3, "to", 0, 1), (4, "to", 0, 2)]
        self.assertEqual(words(pages), ["takes", "same", "takes", "takes"])

    def test_apart(self):
        first = (1, "in", 0, 0, 0, 0, 0)
        self.assertEqual(words([first, (2, "in", 1, 1, 0, 0, 0)]), ["takes", "apart"])
        self.assertEqual(words([first, (2, "in", 1, 2, 0, 0, 0)]), ["takes", "takes"])
        self.assertEqual(words([first, (2, "in", 1, 0, 0, 0, 0)]), ["takes", "takes"])
        self.assertEqual(words([(1, "in", 0, 1, 0, 0, 0), (2, "in", 1, 0, 0, 0, 0)]), ["takes", "apart"])
        self.assertEqual(words([first, (2, "in", 1, 1, 1, 0, 0), (3, "to", 1, 0), (4, "to", 0, 1), (5, "to", 0, 2)]),
                         ["takes", "takes", "apart", "apart", "takes"])

    def test_what_does_not_take_changes_nothing(self):
        pages = [(1, "in", 0, 0, 0, 0, 0), (2, "in", 1, 1, 0, 0, 0), (3, "out", 1), (4, "in", 1, 1, 1, 0, 0)]
        self.assertEqual(words(pages), ["takes", "apart", "none", "takes"])
        pages = [(1, "in", 0, 0, 0, 0, 0), (2, "in", 0, 1, 1, 0, 0), (3, "in", 1, 1, 1, 0, 0), (4, "in", 2, 1, 0, 0, 0)]
        self.assertEqual(words(pages), ["takes", "there", "takes", "apart"])

    def test_room_is_free_again(self):
        pages = [(1, "in", 0, 0, 0, 0, 0), (2, "out", 0), (2, "to", 1, 0), (1, "in", 1, 1, 1, 0, 0)]
        self.assertEqual(words(pages), ["takes", "takes", "takes", "takes"])
        pages = [(1, "in", 0, 0, 0, 0, 0), (2, "to", 0, 2), (2, "to", 1, 0), (1, "in", 1, 1, 1, 0, 0)]
        self.assertEqual(words(pages), ["takes", "takes", "takes", "takes"])

    def test_in_out_to_of_one_hour(self):
        pages = [(4, "to", 0, 1), (4, "out", 0), (4, "in", 0, 0, 0, 0, 0)]
        self.assertEqual(outcomes(HOUSE, pages), [(pages[2], "takes"), (pages[1], "takes"), (pages[0], "none")])
        # An "in" is read ahead of the "out" by which its room would be free.
        pages = [(1, "in", 0, 0, 0, 0, 0), (2, "out", 0), (2, "in", 1, 1, 0, 0, 0)]
        self.assertEqual(words(pages), ["takes", "apart", "takes"])

    def test_within_one_hour_by_lot(self):
        pages = [(1, "in", 3, 1, 0, 0, 0), (1, "in", 2, 0, 0, 0, 0)]
        self.assertEqual(outcomes(HOUSE, pages), [(pages[1], "takes"), (pages[0], "apart")])

    def test_every_order_tells_the_same(self):
        pages = [(1, "in", 0, 0, 0, 0, 0), (1, "in", 1, 1, 1, 3, 1), (2, "to", 0, 1), (2, "out", 1), (2, "to", 0, 2)]
        told = outcomes(HOUSE, pages)
        for order in itertools.permutations(pages):
            self.assertEqual(outcomes(HOUSE, list(order)), told)
            self.assertEqual(places(HOUSE, list(order), 2), [(0, 2)])

    def test_against_a_plain_reading(self):
        for house, outs, pages in cases(300, 12):
            told = [(page, word) for page, word, doors, here in reading(house, pages)]
            self.assertEqual(outcomes(house, pages), told)

    def test_hours_of_forty_figures(self):
        pages = [(FAR, "out", 0), (FAR - 1, "in", 0, 0, 0, 0, 0)]
        self.assertEqual(outcomes(HOUSE, pages), [(pages[1], "takes"), (pages[0], "takes")])


class Places(unittest.TestCase):
    PAGES = [(2, "in", 4, 0, 1, 0, 0), (2, "in", 1, 2, 3, 0, 0), (4, "to", 4, 0), (4, "in", 2, 1, 1, 0, 0), (6, "out", 4)]

    def test_ahead_of_at_and_behind_pages(self):
        told = [places(HOUSE, self.PAGES, hour) for hour in range(8)]
        early, middle, late = [(1, 3), (4, 1)], [(1, 3), (4, 0)], [(1, 3)]
        self.assertEqual(told, [[], [], early, early, middle, middle, late, late])
        self.assertEqual(places(HOUSE, self.PAGES, FAR), late)

    def test_behind_all_pages_of_the_hour(self):
        pages = [(3, "in", 0, 0, 0, 0, 0), (3, "to", 0, 1), (3, "to", 0, 2)]
        self.assertEqual(places(HOUSE, pages, 3), [(0, 2)])
        self.assertEqual(places(HOUSE, pages[:1] + [(3, "out", 0)], 3), [])

    def test_against_a_plain_reading(self):
        for house, outs, pages in cases(100, 12):
            told = reading(house, pages)
            for hour in range(14):
                here = {}
                for page, word, doors, state in told:
                    here = state if page[0] <= hour else here
                self.assertEqual(places(house, pages, hour), sorted(here.items()))

    def test_no_two_that_may_not_share_are_in_one_room(self):
        for house, outs, pages in cases(200, 12):
            kinds = {page[2]: page[3] for page, word in outcomes(house, pages) if (page[1], word) == ("in", "takes")}
            for hour in range(13):
                for (lot, room), (other, beside) in itertools.combinations(places(house, pages, hour), 2):
                    if room == beside:
                        self.assertNotIn(tuple(sorted((kinds[lot], kinds[other]))), house[2])

    def test_no_hour(self):
        for hour in ((), [], *anything()):
            self.assertRaises(NoHour, places, HOUSE, self.PAGES, hour)


class HandedIn(unittest.TestCase):
    def test_unchanged(self):
        chance = random.Random(3)
        for turn in range(20):
            pages = list(Places.PAGES)
            chance.shuffle(pages)
            ahead = copy.deepcopy(pages)
            outcomes(HOUSE, pages)
            places(HOUSE, pages, 4)
            self.assertEqual(pages, ahead)

    def test_told_lists_are_the_askers_own(self):
        pages = list(Places.PAGES)
        for ask in (lambda: outcomes(HOUSE, pages), lambda: places(HOUSE, pages, 5), lambda: outcomes(HOUSE, [])):
            told = ask()
            kept = list(told)
            told.append("more")
            self.assertEqual(ask(), kept)
        told = outcomes(HOUSE, pages)
        kept = list(told)
        pages.clear()
        self.assertEqual(told, kept)
