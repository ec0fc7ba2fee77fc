"""A ledger: it keeps pages and outs, tells what they do, and undoes."""

from rimehold.errors import Missing, NoDeed, NoOut, NoPage, TooMany, Twice
from rimehold.houses import MOST_OUTS, is_out, lie_apart, need_house
from rimehold.pages import MOST_PAGES, is_page, outcomes, places
from rimehold.ripening import ripeness, spoilt, spoilt_at, turns


class Ledger:
    """The pages and the outs of one house, whenever they are told."""

    def __init__(self, house):
        need_house(house)
        self.home = house
        self.kept = ()
        self.dark_hours = ()
        # What was kept ahead of each deed that can be undone, the last one at the end.
        self.earlier = []

    def tell(self, page):
        """Take a page in."""
        self.need_page(page)
        if page in self.kept:
            raise Twice("this page is there already")
        if len(self.kept) >= MOST_PAGES:
            raise TooMany("sixteen pages are there already")
        self.keep(self.kept + (page,), self.dark_hours)

    def strike(self, page):
        """Strike a page out."""
        self.need_page(page)
        if page not in self.kept:
            raise Missing("this page isn't there")
        self.keep(without(self.kept, page), self.dark_hours)

    def dark(self, begin, end):
        """Take an out in."""
        out = (begin, end)
        if not is_out(out) or not lie_apart(sorted(self.dark_hours + (out,))):
            raise NoOut("an out has a begin less than its end, and meets or touches none that is there")
        if len(self.dark_hours) >= MOST_OUTS:
            raise TooMany("four outs are there already")
        self.keep(self.kept, self.dark_hours + (out,))

    def light(self, begin, end):
        """Strike an out out."""
        out = (begin, end)
        if not is_out(out):
            raise NoOut("an out has a begin less than its end")
        if out not in self.dark_hours:
            raise Missing("this out isn't there")
        self.keep(self.kept, without(self.dark_hours, out))

    def undo(self):
        """Undo the last deed that isn't undone yet."""
        if not self.earlier:
            raise NoDeed("no deed is left")
        self.kept, self.dark_hours = self.earlier.pop()

    def house(self):
        return self.home

    def outs(self):
        return self.dark_hours

    def pages(self):
        """Tell the pages in the order in which they are read."""
        return list(self.kept)

    def outcomes(self):
        return outcomes(self.home, self.pages())

    def places(self, hour):
        return places(self.home, self.pages(), hour)

    def ripeness(self, lot, hour):
        return ripeness(self.home, self.dark_hours, self.pages(), lot, hour)

    def spoilt_at(self, lot):
        return spoilt_at(self.home, self.dark_hours, self.pages(), lot)

    def turns(self):
        return turns(self.home, self.dark_hours, self.pages())

    def spoilt(self):
        return spoilt(self.home, self.dark_hours, self.pages())

    def need_page(self, page):
        if not is_page(self.home, page):
            raise NoPage("a page is a tuple of the house's own numbers")

    def keep(self, pages, outs):
        """Do a deed: what was kept until now is kept for its undoing."""
        self.earlier.append((self.kept, self.dark_hours))
        self.kept = tuple(sorted(pages))
        self.dark_hours = tuple(sorted(outs))


def without(things, thing):
    return tuple([other for other in things if other != thing])
