"""Readings: the list of a make, page by page."""

from shownranks.errors import Lacking, NoMany, Over
from shownranks.lists import list_of
from shownranks.wholes import is_whole_from_to


class Reading:
    """The list of a make for an asking, so many at a time, and how far it has been read."""

    def __init__(self, make, weighing, asking, many):
        if not is_whole_from_to(many, 1, 40):
            raise NoMany("a page has from 1 to 40")
        self.listed = list_of(make, weighing, asking)
        self.many = many
        self.read_up_to = 0

    def page(self):
        """The next page of the list."""
        if self.left() == 0:
            raise Over("the list is read to its end")
        page = self.listed[self.read_up_to:self.read_up_to + self.many]
        self.read_up_to += len(page)
        return page

    def left(self):
        """How many of the list are left."""
        return len(self.listed) - self.read_up_to

    def go_on(self, name):
        """Go on behind a name of the list, further on or back."""
        names = [listed_name for listed_name, rank in self.listed]
        if not isinstance(name, str) or name not in names:
            raise Lacking("the list has no text of this name")
        self.read_up_to = names.index(name) + 1
