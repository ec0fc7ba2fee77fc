import copy
import unittest

from helper import FAR, HOUSE, SMALL, anything, nested, plain_cold, cases
from rimehold.errors import NoHour, NoHouse, NoOuts, NoRoom
from rimehold.houses import are_outs, cold_at, is_house

RATES = (4, 3, 2, 1)


def with_part(place, part):
    return HOUSE[:place] + (part,) + HOUSE[place + 1:]


class IsHouse(unittest.TestCase):
    def right(self, *houses):
        for house in houses:
            with self.subTest(house=house):
                self.assertIs(is_house(house), True)

    def wrong(self, *things):
        for thing in things:
            with self.subTest(thing=str(thing)[:80]):
                self.assertIs(is_house(thing), False)

    def test_right_ones(self):
        self.right(HOUSE, SMALL, ((0,), ((1, (0, 0, 0, 0)),), (), 1))
        self.right(((3, 3, 3, 3, 3), ((999, (9, 9, 9, 9)),) * 4, ((0, 1), (0, 2), (0, 3), (1, 2), (1, 3), (2, 3)), 9))

    def test_of_anything(self):
        self.wrong(0, 1, (), [], *anything())

    def test_parts_left_out_or_more(self):
        self.wrong(HOUSE[:3], HOUSE[1:], HOUSE + (1,), HOUSE + ((),), (HOUSE,))

    def test_list_in_the_place_of_a_tuple(self):
        self.wrong(list(HOUSE), with_part(0, [3, 2]), with_part(1, [(10, RATES)] * 3))
        self.wrong(with_part(1, ([10, RATES],) * 3), with_part(1, ((10, list(RATES)),) * 3))
        self.wrong(with_part(2, []), with_part(2, ([0, 1],)), with_part(2, [(0, 1)]))

    def test_each_part_of_anything(self):
        for thing in anything():
            self.wrong(with_part(0, thing), with_part(1, thing), with_part(2, thing), with_part(3, thing))
            self.wrong(with_part(0, (thing,)), with_part(1, (thing,)), with_part(2, (thing,)))
            self.wrong(with_part(1, ((thing, RATES),) * 3), with_part(1, ((10, thing),) * 3))
            self.wrong(with_part(1, ((10, (4, 3, 2, thing)),) * 3), with_part(1, ((10, (thing, 3, 2, 1)),) * 3))
            self.wrong(with_part(2, ((thing, 1),)), with_part(2, ((0, thing),)))

    def test_rooms_at_their_bounds(self):
        self.right(with_part(0, (0,)), with_part(0, (3,)), with_part(0, (0, 1, 2, 3, 3)))
        self.wrong(with_part(0, ()), with_part(0, (0,) * 6), with_part(0, (-1,)), with_part(0, (4,)))
        self.wrong(with_part(0, (True,)), with_part(0, (0, False)), with_part(0, (FAR,)), with_part(0, ("1",)))

    def test_kinds_at_their_bounds(self):
        kind = (10, RATES)
        self.right(with_part(1, (kind,) * 3), with_part(1, (kind,) * 4), HOUSE[:1] + ((kind,), (), 1))
        self.wrong(HOUSE[:1] + ((), (), 1), with_part(1, (kind,) * 5))
        self.wrong(with_part(1, ((10,),) * 3), with_part(1, ((10, RATES, 1),) * 3), with_part(1, ((RATES, 10),) * 3))

    def test_limit_at_its_bounds(self):
        for limit in (1, 999):
            self.right(with_part(1, ((limit, RATES),) * 3))
        for limit in (0, 1000, -1, True, FAR):
            self.wrong(with_part(1, ((limit, RATES),) * 3))

    def test_rates(self):
        for rates in ((0, 0, 0, 0), (9, 9, 9, 9), (9, 0, 0, 0), (3, 3, 2, 2)):
            self.right(with_part(1, ((10, rates),) * 3))
        for rates in ((10, 1, 1, 1), (1, 1, 1, -1), (3, 2, 1), (4, 3, 2, 1, 0), (), (1, 2, 1, 1), (2, 1, 1, 2),
                      (3, 1, 2, 1), (1, 1, 1, False), (True, 1, 1, 1)):
            self.wrong(with_part(1, ((10, rates),) * 3))
            self.wrong(with_part(1, ((10, RATES), (10, RATES), (10, rates))))

    def test_apart(self):
        self.right(*[with_part(2, apart) for apart in ((), ((0, 1),), ((0, 2), (1, 2)), ((0, 1), (0, 2), (1, 2)))])
        for apart in (((1, 0),), ((1, 1),), ((0, 1), (0, 1)), ((0, 2), (0, 1)), ((1, 2), (0, 1)), ((0, 3),),
                      ((-1, 0),), ((0, 1, 2),), ((0,),), ((),), (0, 1), ((False, 1),), ((0, True),), ((0, "1"),)):
            self.wrong(with_part(2, apart))

    def test_hold_at_its_bounds(self):
        self.right(with_part(3, 1), with_part(3, 9))
        self.wrong(with_part(3, 0), with_part(3, 10), with_part(3, -1), with_part(3, True), with_part(3, FAR))

    def test_sixty_deep_and_ten_thousand_parts(self):
        deep = nested(58, lambda thing: (thing,))
        self.wrong(deep, (deep,) * 4, with_part(2, (deep,)), with_part(2, ((0, 1),) * 4000))
        self.wrong(with_part(2, tuple((0, at) for at in range(1, 3000))), with_part(0, (1,) * 9000))


class AreOuts(unittest.TestCase):
    def test_right_ones(self):
        for outs in ((), ((0, 1),), ((0, 1), (2, 3)), ((0, 1), (2, 3), (4, 5), (6, 7)), ((5, FAR),),
                     ((FAR - 3, FAR - 2), (FAR - 1, FAR))):
            with self.subTest(outs=outs):
                self.assertIs(are_outs(HOUSE, outs), True)

    def test_wrong_ones(self):
        for outs in (((1, 1),), ((2, 1),), ((-1, 1),), ((0, 1), (1, 2)), ((0, 2), (1, 3)), ((4, 5), (0, 1)),
                     ((0, 5), (1, 2)), ((0, 1), (0, 1)), ((0, 1), (2, 3), (4, 5), (6, 7), (8, 9)), ((0,),), ((0, 1, 2),),
                     [], [(0, 1)], ([0, 1],), ((False, 1),), ((0, True),), ((0, None),), (("0", "1"),), (0, 1), 0, 5,
                     ((0, 1), ()), ((0, 1), None), ((0, 1), (3, 3)), {}, {(0, 1): 1}):
            with self.subTest(outs=outs):
                self.assertIs(are_outs(HOUSE, outs), False)
                self.assertRaises(NoOuts, cold_at, HOUSE, outs, 0, 0)

    def test_of_anything(self):
        for thing in anything():
            with self.subTest(thing=str(thing)[:80]):
                self.assertIs(are_outs(HOUSE, thing), False)
                self.assertIs(are_outs(HOUSE, (thing,)), False)
                self.assertIs(are_outs(HOUSE, ((thing, 5),)), False)
                self.assertIs(are_outs(HOUSE, ((0, thing),)), False)
                self.assertRaises(NoOuts, cold_at, HOUSE, thing, 0, 0)

    def test_no_house(self):
        for thing in anything():
            self.assertRaises(NoHouse, are_outs, thing, ())
            self.assertRaises(NoHouse, are_outs, thing, None)


class ColdAt(unittest.TestCase):
    def test_without_outs(self):
        self.assertEqual([cold_at(HOUSE, (), room, 5) for room in range(4)], [3, 2, 1, 0])
        self.assertEqual(cold_at(HOUSE, (), 0, FAR), 3)

    def test_ahead_of_in_and_behind_an_out(self):
        colds = [cold_at(HOUSE, ((3, 12),), 0, hour) for hour in range(15)]
        self.assertEqual(colds, [3, 3, 3, 3, 3, 2, 2, 1, 1, 0, 0, 0, 3, 3, 3])

    def test_never_below_0(self):
        self.assertEqual([cold_at(HOUSE, ((3, 40),), room, 39) for room in range(4)], [0, 0, 0, 0])
        self.assertEqual([cold_at(HOUSE, ((3, 40),), room, 5) for room in range(4)], [2, 1, 0, 0])

    def test_each_out_begins_anew(self):
        colds = [cold_at(SMALL, ((0, 2), (3, 5)), 0, hour) for hour in range(7)]
        self.assertEqual(colds, [3, 2, 3, 3, 2, 3, 3])

    def test_hold_of_nine(self):
        house = ((3,), SMALL[1], (), 9)
        self.assertEqual([cold_at(house, ((1, 99),), 0, hour) for hour in (1, 9, 10, 18, 19, 27, 28, 98, 99)],
                         [3, 3, 2, 2, 1, 1, 0, 0, 3])

    def test_hours_of_forty_figures(self):
        begin = FAR - 100
        outs = ((5, 10), (begin, FAR))
        asked = (begin - 1, begin, begin + 1, begin + 2, begin + 5, begin + 6, FAR - 1, FAR)
        self.assertEqual([cold_at(HOUSE, outs, 0, hour) for hour in asked], [3, 3, 3, 2, 1, 0, 0, 3])

    def test_against_hour_by_hour(self):
        for house, outs, pages in cases(60, 30):
            for room in range(len(house[0])):
                for hour in range(33):
                    self.assertEqual(cold_at(house, outs, room, hour), plain_cold(house, outs, room, hour))

    def test_no_room(self):
        for room in (4, 5, FAR, (), [], *anything()):
            self.assertRaises(NoRoom, cold_at, HOUSE, (), room, 0)
        self.assertRaises(NoRoom, cold_at, SMALL, (), 1, 0)

    def test_no_hour(self):
        for hour in ((), [], *anything()):
            self.assertRaises(NoHour, cold_at, HOUSE, (), 0, hour)

    def test_which_refusal_goes_first(self):
        for thing in anything():
            self.assertRaises(NoHouse, cold_at, thing, thing, thing, thing)
            self.assertRaises(NoOuts, cold_at, HOUSE, thing, thing, thing)
            self.assertRaises(NoRoom, cold_at, HOUSE, (), thing, thing)

    def test_what_is_handed_in_is_unchanged(self):
        for thing in anything():
            ahead = copy.deepcopy(thing)
            is_house(thing)
            are_outs(HOUSE, thing)
            self.assertEqual(thing, ahead)
