"""Books: rows joined, met, taken from one another and turned."""

from fivefields.errors import NoBook
from fivefields.moments import DAY_MINUTES
from fivefields.months import month_at
from fivefields.rows import Row

MOST_BOOKS = 8
MOST_TALLY = 24
MOST_DEPTH = 5


def same_each_day(times, kind):
    """A list of the same times for each day of a month of a kind."""
    return [times] * month_at(kind)[1]


def all_times():
    """The mask of all minutes of a day."""
    return (1 << DAY_MINUTES) - 1


def tally_of(books):
    """How many a book made of some books counts."""
    return 1 + sum([book.tally() for book in books])


def depth_of(books):
    """How deep a book made of some books is."""
    return 1 + max([book.depth() for book in books])


class Book:
    """A book that holds at no moment."""

    def holds(self, moment):
        return False

    def tally(self):
        return 1

    def depth(self):
        return 1

    def on_days(self, kind):
        """The times at which the book holds on each day of a month of a kind, from day 1 on."""
        return same_each_day(0, kind)


def checked(books):
    """Some books as a tuple; refused with NoBook where no book may be made of them."""
    if not all([isinstance(book, Book) for book in books]):
        raise NoBook("no book")
    if tally_of(books) > MOST_TALLY:
        raise NoBook("too many books")
    if depth_of(books) > MOST_DEPTH:
        raise NoBook("too deep")
    return tuple(books)


def checked_list(books):
    """The books of a list as a tuple; refused with NoBook whatever is no list of one to eight books."""
    if not isinstance(books, list) or not 1 <= len(books) <= MOST_BOOKS:
        raise NoBook("no list of one to eight books")
    return checked(books)


class Of(Book):
    """A book that holds where a row holds."""

    def __init__(self, row):
        if not isinstance(row, Row):
            raise NoBook("no row")
        self.row = row

    def holds(self, moment):
        return self.row.holds(moment)

    def on_days(self, kind):
        return self.row.on_days(kind)


class Joined(Book):
    """A book that holds where one or more of its books hold."""

    def __init__(self, books):
        self.books = checked_list(books)

    def holds(self, moment):
        return any([book.holds(moment) for book in self.books])

    def tally(self):
        return tally_of(self.books)

    def depth(self):
        return depth_of(self.books)

    def on_days(self, kind):
        days = same_each_day(0, kind)
        for book in self.books:
            days = [times | others for times, others in zip(days, book.on_days(kind))]
        return days


class Met(Book):
    """A book that holds where all of its books hold."""

    def __init__(self, books):
        self.books = checked_list(books)

    def holds(self, moment):
        return all([book.holds(moment) for book in self.books])

    def tally(self):
        return tally_of(self.books)

    def depth(self):
        return depth_of(self.books)

    def on_days(self, kind):
        days = same_each_day(all_times(), kind)
        for book in self.books:
            days = [times & others for times, others in zip(days, book.on_days(kind))]
        return days


class Less(Book):
    """A book that holds where the one of two books holds and the other doesn't."""

    def __init__(self, one, other):
        checked([one, other])
        self.one = one
        self.other = other

    def holds(self, moment):
        return self.one.holds(moment) and not self.other.holds(moment)

    def tally(self):
        return tally_of([self.one, self.other])

    def depth(self):
        return depth_of([self.one, self.other])

    def on_days(self, kind):
        return [times & ~others for times, others in zip(self.one.on_days(kind), self.other.on_days(kind))]


class Turned(Book):
    """A book that holds where its one doesn't."""

    def __init__(self, one):
        checked([one])
        self.one = one

    def holds(self, moment):
        return not self.one.holds(moment)

    def tally(self):
        return tally_of([self.one])

    def depth(self):
        return depth_of([self.one])

    def on_days(self, kind):
        return [all_times() ^ times for times in self.one.on_days(kind)]
