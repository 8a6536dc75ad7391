"""The book of a bridge in use."""

from fourhinges.changes import Change, changed
from fourhinges.errors import BadChange, NoChange
from fourhinges.kinds import is_number
from fourhinges.road import check_road
from fourhinges.traffic import is_safe, verdict


class Trial:
    """A block after which a book is as it was before."""

    def __init__(self, book):
        self._book = book
        self._changes = ()
        self._answers = ()
        self._coming = 0

    def __enter__(self):
        self._changes = self._book._changes
        self._answers = self._book._answers
        self._coming = self._book._coming

    def __exit__(self, kind, value, trace):
        self._book._changes = self._changes
        self._book._answers = self._answers
        self._book._coming = self._coming


class Book:
    """The changes of a bridge and its road, and the answers of its days."""

    def __init__(self, bridge, road):
        check_road(bridge, road)
        self._bridge = bridge
        self._road = road
        # These are never changed, only replaced: so a trial can keep them.
        self._changes = ()
        self._answers = ()
        self._coming = 0

    @property
    def days(self):
        """Return the answers that were written down, one for each day."""
        return self._answers

    def put(self, change):
        """Write a change and return its number."""
        if not isinstance(change, Change):
            raise BadChange("change")
        bridge, road = self.now()
        change.applied(bridge, road)
        number = self._coming
        self._changes = self._changes + ((number, change),)
        self._coming = number + 1
        return number

    def take(self, number):
        """Remove the change with this number and return it."""
        found = [change for other, change in self._changes if is_number(number) and other == number]
        if not found:
            raise NoChange(number)
        self._changes = tuple([pair for pair in self._changes if pair[0] != number])
        return found[0]

    def now(self):
        """Return the bridge and the road after all changes in the book."""
        return changed(self._bridge, self._road, [change for _, change in self._changes])

    def answer(self):
        """Return the verdict on the bridge and the road as they are now."""
        bridge, road = self.now()
        return verdict(bridge, road)

    def close_day(self):
        """Return whether the bridge bears every scene of the road now, and write it down."""
        bridge, road = self.now()
        is_borne = is_safe(bridge, road)
        self._answers = self._answers + (is_borne,)
        return is_borne

    def trial(self):
        """Return a block after which the book is as it was at its beginning."""
        return Trial(self)

    def __iter__(self):
        return iter(self._changes)

    def __len__(self):
        return len(self._changes)


def tried(book, changes):
    """Return the verdict after these changes, and leave the book as it is."""
    with book.trial():
        for change in changes:
            book.put(change)
        return book.answer()


def in_trial(book, task):
    """Return what a task does with the book, and leave the book as it is."""
    with book.trial():
        return task(book)
