"""The desk: books kept by names and a clock, asked by rows of text."""

from fivefields.against import against, parted_from
from fivefields.booktexts import is_name, read_book, read_bracketed, shown_book
from fivefields.clocks import Clock, Shifted
from fivefields.counts import count, nth
from fivefields.errors import NoBook, NoName, NoWord
from fivefields.figures import is_written
from fivefields.gaps import greatest_gap
from fivefields.moments import read_moment, show_moment
from fivefields.rings import next_ring
from fivefields.sheets import final_to, first_from

MOST_FIGURES = 50
# What stands behind the first word of a row; a moment is two words. The rows `book` and `put` are of another form.
FORMS = {
    "drop": ("name",),
    "names": (),
    "show": ("name",),
    "holds": ("name", "moment"),
    "next": ("name", "moment"),
    "last": ("name", "moment"),
    "against": ("name", "name"),
    "parted": ("name", "name", "moment"),
    "count": ("name", "moment", "moment"),
    "nth": ("name", "moment", "number"),
    "gap": ("name",),
    "clock": ("signed",),
    "ring": ("name", "moment"),
}


def is_number(text):
    """Whether a text is a number that a row may have."""
    return len(text) <= MOST_FIGURES and is_written(text)


def is_signed(text):
    """Whether a text is a number that a row may have, perhaps with a `-` ahead."""
    bare = text[1:] if text.startswith("-") else text
    return is_number(bare) and text != "-0"


def is_of_form(text, form):
    """Whether a text may stand where a form tells it, whatever is kept; whether it tells a moment is asked later."""
    if form == "name":
        return is_name(text)
    if form == "number":
        return is_number(text)
    if form == "signed":
        return is_signed(text)
    return True


def texts_of(words, forms):
    """The texts of some words, one for each form; refused with NoWord where they are not so many or so written."""
    if "" in words or len(words) != len(forms) + forms.count("moment"):
        raise NoWord("words lack or are too many")
    texts = []
    place = 0
    for form in forms:
        width = 2 if form == "moment" else 1
        texts.append(" ".join(words[place:place + width]))
        place = place + width
    if not all([is_of_form(text, form) for text, form in zip(texts, forms)]):
        raise NoWord("no name or no number")
    return texts


def behind_two(row, is_second):
    """The second word of a row, of which is_second must be true, and all behind it, as a tuple; refused with NoWord."""
    parts = row.split(" ", 2)
    if len(parts) != 3 or not is_second(parts[1]):
        raise NoWord("words lack")
    return (parts[1], parts[2])


def read_put(text):
    """The row of a text that is one in square brackets; refused with NoBook."""
    bracketed = read_bracketed(text, 0)
    if bracketed[1] != len(text):
        raise NoBook("more than one row")
    return bracketed[0][1]


def shown_moment(moment):
    """The text of a moment or of None."""
    if moment is None:
        return "never"
    return show_moment(moment)


def shown_gap(gap):
    """The text of a gap or of None."""
    if gap is None:
        return "never"
    return str(gap[0]) + " " + show_moment(gap[1])


def answer(word, things):
    """The answer to a row that asks for books alone, by its first word and what the others tell."""
    if word == "show":
        return shown_book(things[0])
    if word == "holds":
        return "yes" if things[0].holds(things[1]) else "no"
    if word == "next":
        return shown_moment(first_from(things[0], things[1]))
    if word == "last":
        return shown_moment(final_to(things[0], things[1]))
    if word == "against":
        return against(things[0], things[1])
    if word == "parted":
        return shown_moment(parted_from(things[0], things[1], things[2]))
    if word == "count":
        return str(count(things[0], things[1], things[2]))
    if word == "nth":
        return shown_moment(nth(things[0], things[1], things[2]))
    return shown_gap(greatest_gap(things[0]))


class Desk:
    """Books kept by names, and a clock."""

    def __init__(self):
        self.kept = {}
        self.clock = Clock(0)
        self.puts = []

    def say(self, row):
        """The answer to a row; refused with NoWord, NoName, NoMoment, NoBook, NoClock."""
        if not isinstance(row, str):
            raise NoWord("no text")
        words = row.split(" ")
        word = words[0]
        if word == "book":
            return self.keep_book(row)
        if word == "put":
            return self.put_clock(row)
        if word not in FORMS:
            raise NoWord("another first word")
        texts = texts_of(words[1:], FORMS[word])
        things = self.things_of(texts, FORMS[word])
        if word == "names":
            return " ".join(list(self.kept)) if len(self.kept) > 0 else "none"
        if word == "drop":
            self.kept.pop(texts[0])
            return "ok"
        if word == "clock":
            return self.set_clock(things[0])
        if word == "ring":
            return shown_moment(next_ring(self.clock, things[0], things[1]))
        return answer(word, things)

    def keep_book(self, row):
        parts = behind_two(row, is_name)
        self.kept[parts[0]] = read_book(parts[1], self.kept)
        return "ok"

    def put_clock(self, row):
        parts = behind_two(row, is_signed)
        puts = self.puts + [(read_put(parts[1]), int(parts[0]))]
        self.clock = Shifted(puts)
        self.puts = puts
        return "ok"

    def set_clock(self, offset):
        self.clock = Clock(offset)
        self.puts = []
        return "ok"

    def things_of(self, texts, forms):
        """What texts tell: books, moments, numbers; refused with NoName, then with NoMoment."""
        for text, form in zip(texts, forms):
            if form == "name" and text not in self.kept:
                raise NoName(text)
        return [self.thing_of(text, form) for text, form in zip(texts, forms)]

    def thing_of(self, text, form):
        if form == "name":
            return self.kept[text]
        if form == "moment":
            return read_moment(text)
        return int(text)
