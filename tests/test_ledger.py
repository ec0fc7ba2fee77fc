import itertools
import random
import unittest

from helper import FAR, HOUSE, SMALL, anything, cases, no_numbers, some_page
from rimehold.errors import Missing, NoDeed, NoHour, NoHouse, NoLot, NoOut, NoPage, RimeError, TooMany, Twice
from rimehold.ledger import Ledger
from rimehold.pages import outcomes, places
from rimehold.ripening import ripeness, spoilt, spoilt_at, turns

IN = (2, "in", 0, 0, 1, 5, 7)
OUT = (9, "out", 0)
TO = (4, "to", 0, 2)
PAGES = [(hour, "out", 0) for hour in range(16)]
# One hour lies between two of them.
DARKS = [(10, 12), (13, 15), (16, 18), (19, 21)]


def ledger_of(pages=(), outs=(), house=HOUSE):
    ledger = Ledger(house)
    for page in pages:
        ledger.tell(page)
    for begin, end in outs:
        ledger.dark(begin, end)
    return ledger


def kept(ledger):
    return ledger.house(), ledger.outs(), ledger.pages()


def all_told(ledger):
    """All that a ledger tells, at some hours."""
    return (kept(ledger), ledger.outcomes(), ledger.turns(), ledger.spoilt(), [ledger.spoilt_at(lot) for lot in range(10)],
            [ledger.places(hour) for hour in (0, 5, 30)], [ledger.ripeness(lot, 20) for lot in range(10)])


def all_reckoned(house, outs, pages):
    """The same by the functions of the other modules."""
    return ((house, outs, pages), outcomes(house, pages), turns(house, outs, pages), spoilt(house, outs, pages),
            [spoilt_at(house, outs, pages, lot) for lot in range(10)],
            [places(house, pages, hour) for hour in (0, 5, 30)],
            [ripeness(house, outs, pages, lot, 20) for lot in range(10)])


class LedgerCase(unittest.TestCase):
    def refused(self, error, ledger, deed, *given):
        """It is refused, and changes nothing."""
        ahead = all_told(ledger)
        self.assertRaises(error, deed, *given)
        self.assertEqual(all_told(ledger), ahead)


class Making(LedgerCase):
    def test_empty(self):
        ledger = Ledger(HOUSE)
        self.assertEqual(kept(ledger), (HOUSE, (), []))
        self.assertEqual(all_told(ledger), all_reckoned(HOUSE, (), []))

    def test_no_house(self):
        for thing in [(), [], 0, list(HOUSE), *anything()]:
            self.assertRaises(NoHouse, Ledger, thing)

    def test_two_ledgers_have_nothing_in_common(self):
        one, other = ledger_of([IN]), ledger_of()
        one.dark(1, 3)
        self.assertEqual(kept(other), (HOUSE, (), []))
        self.assertRaises(NoDeed, other.undo)
        other.tell(TO)
        one.undo()
        one.undo()
        self.assertEqual(kept(one), (HOUSE, (), []))
        self.assertEqual(kept(other), (HOUSE, (), [TO]))
        self.assertRaises(NoDeed, one.undo)
        self.assertEqual(Ledger(SMALL).house(), SMALL)


class Telling(LedgerCase):
    def test_in_the_order_of_reading(self):
        pages = [TO, (4, "in", 1, 0, 0, 0, 0), OUT, (4, "out", 1), IN]
        self.assertEqual(ledger_of(pages).pages(), sorted(pages))

    def test_gives_back_nothing(self):
        ledger = Ledger(HOUSE)
        self.assertIsNone(ledger.tell(IN))
        self.assertIsNone(ledger.dark(1, 3))
        self.assertIsNone(ledger.light(1, 3))
        self.assertIsNone(ledger.strike(IN))
        self.assertIsNone(ledger.undo())

    def test_twice(self):
        ledger = ledger_of([IN, TO])
        self.refused(Twice, ledger, ledger.tell, IN)
        self.refused(Twice, ledger, ledger.tell, TO)
        ledger.tell(IN[:6] + (8,))
        ledger.strike(IN)
        ledger.tell(IN)
        self.assertEqual(ledger.pages(), [IN, IN[:6] + (8,), TO])

    def test_seventeenth(self):
        ledger = ledger_of(PAGES)
        self.refused(TooMany, ledger, ledger.tell, (16, "out", 0))
        self.refused(TooMany, ledger, ledger.tell, IN)
        ledger.strike(PAGES[3])
        ledger.tell(IN)
        self.refused(TooMany, ledger, ledger.tell, PAGES[3])

    def test_which_goes_first(self):
        ledger = ledger_of(PAGES)
        self.refused(Twice, ledger, ledger.tell, PAGES[0])
        self.refused(NoPage, ledger, ledger.tell, (16, "out", 10))
        self.refused(NoPage, ledger, ledger.tell, None)

    def test_no_page(self):
        wrongs = [[], (), list(IN), IN[:6], IN + (0,), (2, "in", 0), (2, "out", 0, 0), (2, "up", 0), (True, "out", 0),
                  (-1, "out", 0), (2, "out", 10), (2, "out", -1), (2, "out", False), (2, "to", 0, 4), (2, "to", 0, -1),
                  (2, "in", 0, 3, 1, 5, 7), (2, "in", 0, 0, 4, 5, 7), (2, "in", 0, 0, 1, 1000, 7), (2, "in", 0, 0, 1, 5, 100),
                  ("2", "out", 0), [IN], (IN,), *anything()]
        for ledger in (ledger_of(), ledger_of([IN, TO], [(1, 3)])):
            for page in wrongs:
                self.refused(NoPage, ledger, ledger.tell, page)
                self.refused(NoPage, ledger, ledger.strike, page)
        for part in anything():
            self.assertRaises(NoPage, ledger.tell, (part, "out", 0))
            self.assertRaises(NoPage, ledger.tell, (0, part, 0))
            self.assertRaises(NoPage, ledger.tell, (0, "out", part))

    def test_pages_of_the_house(self):
        ledger = Ledger(SMALL)
        self.refused(NoPage, ledger, ledger.tell, (0, "to", 0, 1))
        self.refused(NoPage, ledger, ledger.strike, (0, "to", 0, 1))
        ledger.tell((FAR, "to", 9, 0))
        self.assertEqual(ledger.pages(), [(FAR, "to", 9, 0)])

    def test_pages_that_do_not_take_are_kept(self):
        ledger = ledger_of([OUT, TO])
        self.assertEqual(ledger.outcomes(), [(TO, "none"), (OUT, "none")])
        ledger.tell(IN)
        self.assertEqual(ledger.outcomes(), [(IN, "takes"), (TO, "takes"), (OUT, "takes")])


class Striking(LedgerCase):
    def test_missing(self):
        ledger = ledger_of([IN], [(1, 3)])
        self.refused(Missing, ledger, ledger.strike, TO)
        self.refused(Missing, ledger, ledger.strike, IN[:6] + (8,))
        ledger.strike(IN)
        self.refused(Missing, ledger, ledger.strike, IN)
        self.assertEqual(kept(ledger), (HOUSE, ((1, 3),), []))

    def test_as_if_it_had_never_been_told(self):
        ledger = ledger_of([IN, TO, OUT, (3, "in", 1, 0, 1, 20, 7)], [(1, 3)])
        ledger.strike(TO)
        self.assertEqual(all_told(ledger), all_told(ledger_of([IN, OUT, (3, "in", 1, 0, 1, 20, 7)], [(1, 3)])))
        ledger.strike(IN)
        self.assertEqual(ledger.outcomes(), [((3, "in", 1, 0, 1, 20, 7), "takes"), (OUT, "none")])

    def test_missing_among_sixteen(self):
        ledger = ledger_of(PAGES)
        self.refused(Missing, ledger, ledger.strike, IN)


class Outs(LedgerCase):
    def test_in_order(self):
        for order in itertools.permutations(DARKS):
            self.assertEqual(ledger_of((), order).outs(), tuple(DARKS))

    def test_meeting_touching_and_lying_within(self):
        ledger = ledger_of([IN], [(10, 20)])
        for begin, end in ((10, 20), (5, 10), (20, 25), (5, 11), (19, 25), (12, 15), (10, 11), (19, 20), (5, 25), (10, 25),
                           (5, 20), (0, FAR)):
            self.refused(NoOut, ledger, ledger.dark, begin, end)
        for begin, end in ((5, 9), (21, 25), (0, 1), (FAR - 1, FAR)):
            ledger.dark(begin, end)
            self.assertEqual(ledger.outs(), tuple(sorted([(10, 20), (begin, end)])))
            ledger.undo()

    def test_between_two(self):
        ledger = ledger_of((), [(10, 12), (20, 22)])
        for begin, end in ((12, 14), (12, 20), (18, 20), (13, 20), (12, 19), (11, 21), (0, 30), (22, 23), (9, 10)):
            self.refused(NoOut, ledger, ledger.dark, begin, end)
        ledger.dark(13, 19)
        self.assertEqual(ledger.outs(), ((10, 12), (13, 19), (20, 22)))

    def test_no_out(self):
        ledger = ledger_of([IN], [(1, 3)])
        wrongs = [(3, 1), (1, 1), (7, 7), (9, 8), (-1, 0), (-1, 5), (FAR, 0)]
        wrongs += [pair for thing in no_numbers() + [-1, -FAR] for pair in ((thing, 9), (5, thing), (thing, thing))]
        for begin, end in wrongs:
            self.refused(NoOut, ledger, ledger.dark, begin, end)
            self.refused(NoOut, ledger, ledger.light, begin, end)

    def test_truths_are_no_hours(self):
        ledger = ledger_of((), [(0, 1)])
        self.refused(NoOut, ledger, ledger.light, False, 1)
        self.refused(NoOut, ledger, ledger.light, 0, True)
        ledger.light(0, 1)
        self.refused(NoOut, ledger, ledger.dark, False, 1)
        self.refused(NoOut, ledger, ledger.dark, 0, True)

    def test_a_fifth(self):
        ledger = ledger_of((), DARKS)
        self.refused(TooMany, ledger, ledger.dark, 30, 31)
        self.refused(TooMany, ledger, ledger.dark, 0, 9)
        ledger.light(13, 15)
        ledger.dark(30, 31)
        self.refused(TooMany, ledger, ledger.dark, 13, 15)

    def test_which_goes_first(self):
        ledger = ledger_of((), DARKS)
        for begin, end in ((21, 22), (10, 12), (11, 14), (9, 10), (31, 30), (None, 30), (0, FAR)):
            self.refused(NoOut, ledger, ledger.dark, begin, end)
        self.refused(NoOut, ledger, ledger.light, 31, 30)

    def test_missing(self):
        ledger = ledger_of([IN], [(10, 20)])
        for begin, end in ((10, 19), (11, 20), (10, 21), (20, 25), (0, 10), (30, 31), (5, 25)):
            self.refused(Missing, ledger, ledger.light, begin, end)
        ledger.light(10, 20)
        self.refused(Missing, ledger, ledger.light, 10, 20)
        self.assertEqual(kept(ledger), (HOUSE, (), [IN]))

    def test_missing_among_four(self):
        ledger = ledger_of((), DARKS)
        self.refused(Missing, ledger, ledger.light, 30, 31)
        self.refused(Missing, ledger, ledger.light, 11, 14)


class Undoing(LedgerCase):
    def test_no_deed(self):
        ledger = Ledger(HOUSE)
        self.refused(NoDeed, ledger, ledger.undo)
        ledger.tell(IN)
        ledger.undo()
        self.refused(NoDeed, ledger, ledger.undo)

    def test_each_deed_the_last_one_first(self):
        ledger = Ledger(HOUSE)
        deeds = [(ledger.tell, IN), (ledger.dark, 5, 8), (ledger.tell, TO), (ledger.light, 5, 8), (ledger.dark, 4, 6),
                 (ledger.strike, IN), (ledger.tell, OUT), (ledger.tell, IN), (ledger.dark, 8, 9), (ledger.strike, TO)]
        ahead = []
        for deed, *given in deeds:
            ahead.append(all_told(ledger))
            deed(*given)
        for told in reversed(ahead):
            ledger.undo()
            self.assertEqual(all_told(ledger), told)
        self.assertRaises(NoDeed, ledger.undo)

    def test_undoing_is_no_deed(self):
        ledger = ledger_of([IN, TO, OUT])
        ledger.undo()
        ledger.undo()
        self.assertEqual(ledger.pages(), [IN])
        ledger.tell(OUT)
        ledger.undo()
        ledger.undo()
        self.assertEqual(ledger.pages(), [])
        self.assertRaises(NoDeed, ledger.undo)

    def test_what_is_refused_is_no_deed(self):
        ledger = ledger_of([IN], [(5, 8)])
        for error, deed, *given in ((Twice, ledger.tell, IN), (NoPage, ledger.tell, ()), (Missing, ledger.strike, TO),
                                    (NoPage, ledger.strike, None), (NoOut, ledger.dark, 8, 9), (NoOut, ledger.light, 8, 8),
                                    (Missing, ledger.light, 1, 2), (NoHour, ledger.places, -1),
                                    (NoLot, ledger.ripeness, 10, 0)):
            self.refused(error, ledger, deed, *given)
        ledger.undo()
        self.assertEqual(kept(ledger), (HOUSE, (), [IN]))
        self.refused(Missing, ledger, ledger.light, 5, 8)
        ledger.undo()
        self.assertEqual(kept(ledger), (HOUSE, (), []))

    def test_too_many_is_no_deed(self):
        ledger = ledger_of(PAGES, DARKS)
        self.refused(TooMany, ledger, ledger.tell, IN)
        self.refused(TooMany, ledger, ledger.dark, 30, 31)
        ledger.undo()
        self.assertEqual(kept(ledger), (HOUSE, tuple(DARKS[:3]), PAGES))

    def test_asking_is_no_deed(self):
        ledger = ledger_of([IN])
        all_told(ledger)
        ledger.undo()
        self.assertEqual(ledger.pages(), [])

    def test_many_deeds(self):
        ledger = Ledger(HOUSE)
        for turn in range(1000):
            ledger.tell(IN)
            ledger.strike(IN)
        for turn in range(1000):
            ledger.undo()
            self.assertEqual(ledger.pages(), [IN])
            ledger.undo()
            self.assertEqual(ledger.pages(), [])
        self.assertRaises(NoDeed, ledger.undo)

    def test_against_a_plain_ledger(self):
        chance = random.Random(16)
        for turn in range(40):
            ledger, pages, outs, ahead = Ledger(HOUSE), set(), set(), []
            for deed in range(120):
                page, (begin, end) = some_page(chance, HOUSE, 2), sorted(chance.sample(range(30), 2))
                word = chance.choice(["tell"] * 5 + ["strike", "strike", "dark", "dark", "light", "undo"])
                some = chance.choice(sorted(pages) + [page])
                out = chance.choice(sorted(outs) + [(begin, end)])
                state = (set(pages), set(outs))
                free = all(end < other[0] or begin > other[1] for other in outs)
                error = {"tell": Twice if page in pages else TooMany if len(pages) == 16 else None,
                         "strike": None if some in pages else Missing,
                         "dark": NoOut if not free else TooMany if len(outs) == 4 else None,
                         "light": None if out in outs else Missing,
                         "undo": None if ahead else NoDeed}[word]
                given = {"tell": [page], "strike": [some], "dark": [begin, end], "light": out, "undo": []}[word]
                if error:
                    self.assertRaises(error, getattr(ledger, word), *given)
                else:
                    getattr(ledger, word)(*given)
                    if word == "undo":
                        pages, outs = ahead.pop()
                    else:
                        ahead.append(state)
                        {"tell": lambda: pages.add(page), "strike": lambda: pages.remove(some),
                         "dark": lambda: outs.add((begin, end)), "light": lambda: outs.remove(out)}[word]()
                self.assertEqual(kept(ledger), (HOUSE, tuple(sorted(outs)), sorted(pages)))


class Told(LedgerCase):
    def test_what_the_functions_tell(self):
        for house, outs, pages in cases(80, 24):
            ledger = ledger_of(pages, outs, house)
            self.assertEqual(all_told(ledger), all_reckoned(house, outs, sorted(pages)))
            for lot in range(5):
                for hour in (0, 3, 24, FAR):
                    self.assertEqual(ledger.ripeness(lot, hour), ripeness(house, outs, pages, lot, hour))

    def test_in_whatever_order_and_however_late(self):
        chance = random.Random(17)
        for house, outs, pages in cases(30, 24):
            told = all_told(ledger_of(pages, outs, house))
            ledger = Ledger(house)
            deeds = [(ledger.tell, ledger.strike, (page,)) for page in pages]
            deeds += [(ledger.dark, ledger.light, out) for out in outs]
            chance.shuffle(deeds)
            for do, take_back, given in deeds:
                do(*given)
                all_told(ledger)
            self.assertEqual(all_told(ledger), told)
            some = chance.sample(deeds, len(deeds) // 2)
            for do, take_back, given in some:
                take_back(*given)
            for do, take_back, given in reversed(some):
                do(*given)
            self.assertEqual(all_told(ledger), told)
            for turn in range(2 * len(some)):
                ledger.undo()
            self.assertEqual(all_told(ledger), told)

    def test_kinds(self):
        ledger = ledger_of([IN, OUT, (3, "in", 1, 0, 1, 20, 7)], [(1, 3)])
        for told, kind in ((ledger.house(), tuple), (ledger.outs(), tuple), (ledger.pages(), list),
                           (ledger.outcomes(), list), (ledger.places(5), list), (ledger.turns(), list),
                           (ledger.spoilt(), list)):
            self.assertIsInstance(told, kind)
        self.assertEqual(ledger.turns(), [(OUT, 1)])
        self.assertIsNone(ledger.ripeness(0, 1))
        self.assertIsNone(ledger.spoilt_at(2))

    def test_lists_are_the_askers_own(self):
        ledger = ledger_of([IN, OUT, (3, "in", 1, 0, 1, 20, 7), (12, "out", 1)])
        for ask in (ledger.pages, ledger.outcomes, lambda: ledger.places(5), ledger.turns, ledger.spoilt):
            told = ask()
            first = list(told)
            self.assertTrue(first)
            told.append("more")
            self.assertEqual(ask(), first)
            told.clear()
            self.assertEqual(ask(), first)
        pages = ledger.pages()
        ledger.strike(OUT)
        ledger.undo()
        ledger.undo()
        self.assertEqual(len(pages), 4)

    def test_told_pages_may_be_told_again(self):
        first = ledger_of([IN, OUT, TO], [(1, 3)])
        self.assertEqual(all_told(ledger_of(first.pages(), first.outs(), first.house())), all_told(first))

    def test_refusals(self):
        ledger = ledger_of([IN, TO])
        for thing in [(), [], *anything()]:
            self.refused(NoHour, ledger, ledger.places, thing)
            self.refused(NoLot, ledger, ledger.spoilt_at, thing)
            self.refused(NoLot, ledger, ledger.ripeness, thing, 0)
            self.refused(NoLot, ledger, ledger.ripeness, thing, thing)
            self.refused(NoHour, ledger, ledger.ripeness, 0, thing)
        for lot in (-1, 10, True):
            self.refused(NoLot, ledger, ledger.ripeness, lot, -1)
            self.refused(NoLot, ledger, ledger.spoilt_at, lot)

    def test_any_refusal_is_a_rime_error(self):
        ledger = Ledger(HOUSE)
        for deed, *given in ((Ledger, None), (ledger.tell, None), (ledger.strike, IN), (ledger.dark, 1, 1),
                             (ledger.light, 1, 2), (ledger.undo,), (ledger.places, None), (ledger.spoilt_at, None)):
            self.assertRaises(RimeError, deed, *given)
