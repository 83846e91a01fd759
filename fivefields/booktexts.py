"""Books as texts."""

from fivefields.books import Book, Joined, Less, Met, Of, Turned
from fivefields.errors import NoBook, NoName, NoRow
from fivefields.rows import read_row

LETTERS = "abcdefghijklmnopqrstuvwxyz"
MOST_LETTERS = 8
KEPT_WORDS = ("or", "and", "but", "not", "none")
JOINTS = (" or ", " and ", " but ")
# So many round brackets and words `not` may stand about a part.
MOST_ABOUT = 10


def is_name(text):
    """Whether a text may be a name of a book."""
    if not 1 <= len(text) <= MOST_LETTERS or text in KEPT_WORDS:
        return False
    return all([sign in LETTERS for sign in text])


# What is read is kept as a tuple (word, things) until all of the text is seen: ("row", its row), ("name", it itself),
# ("none", None), and else "not", "or", "and" or "but" with a list of such tuples. It is told with the place at which
# it ends, as a tuple (tree, end).


def read_bracketed(text, start):
    """The row in square brackets that begins at a place; refused with NoBook."""
    end = text.find("]", start)
    if not text.startswith("[", start) or end < 0:
        raise NoBook("no row in square brackets")
    try:
        return (("row", read_row(text[start + 1:end])), end + 1)
    except NoRow:
        raise NoBook("no row") from None


def read_word(text, start):
    """The name or the word `none` that begins at a place; refused with NoBook."""
    end = start
    while end < len(text) and text[end] in LETTERS:
        end = end + 1
    word = text[start:end]
    if word == "none":
        return (("none", None), end)
    if not is_name(word):
        raise NoBook("no part of a book")
    return (("name", word), end)


def read_part(text, start, about):
    """The part that begins at a place, with so many brackets and `not`s about it; refused with NoBook."""
    if about > MOST_ABOUT:
        raise NoBook("too many brackets")
    if text.startswith("[", start):
        return read_bracketed(text, start)
    if text.startswith("not ", start):
        turned = read_part(text, start + len("not "), about + 1)
        return (("not", [turned[0]]), turned[1])
    if text.startswith("(", start):
        whole = read_whole(text, start + 1, about + 1)
        if not text.startswith(")", whole[1]):
            raise NoBook("a bracket lacks")
        return (whole[0], whole[1] + 1)
    return read_word(text, start)


def joint_at(text, start):
    """The word with its blanks that stands between two parts at a place, a text without signs where none does."""
    for joint in JOINTS:
        if text.startswith(joint, start):
            return joint
    return ""


def read_whole(text, start, about):
    """The whole text that begins at a place, read as far as it goes; refused with NoBook."""
    part = read_part(text, start, about)
    joint = joint_at(text, part[1])
    if joint == "":
        return part
    trees = [part[0]]
    while joint_at(text, part[1]) == joint:
        part = read_part(text, part[1] + len(joint), about)
        trees.append(part[0])
    if joint == " but " and len(trees) > 2:
        raise NoBook("more than two parts with but")
    # An unlike word behind the parts is left over, so that the text isn't read to its end.
    return ((joint.strip(), trees), part[1])


def names_in(tree):
    """The names in what was read, from the left."""
    if tree[0] == "name":
        return [tree[1]]
    if tree[0] in ("row", "none"):
        return []
    found = []
    for part in tree[1]:
        found.extend(names_in(part))
    return found


def book_of(tree, names):
    """The book of what was read; refused with NoBook where books refuse it."""
    if tree[0] == "row":
        return Of(tree[1])
    if tree[0] == "name":
        return names[tree[1]]
    if tree[0] == "none":
        return Book()
    books = [book_of(part, names) for part in tree[1]]
    if tree[0] == "not":
        return Turned(books[0])
    if tree[0] == "or":
        return Joined(books)
    if tree[0] == "and":
        return Met(books)
    return Less(books[0], books[1])


def read_book(text, names):
    """The book of a text, which may have names of a dict of books; refused with NoBook and NoName."""
    if not isinstance(text, str):
        raise NoBook("no text")
    whole = read_whole(text, 0, 0)
    if whole[1] != len(text):
        raise NoBook("more than a book's text")
    for name in names_in(whole[0]):
        if name not in names:
            raise NoName(name)
    return book_of(whole[0], names)


def shown_joined(books, joint):
    """The text of some books with a word between, and whether it stands there, as a tuple."""
    if len(books) == 1:
        return shown_whole(books[0])
    return (joint.join([shown_part(book) for book in books]), True)


def shown_whole(book):
    """The text of a book, and whether it has a word between parts, as a tuple."""
    if isinstance(book, Of):
        return ("[" + book.row.shown() + "]", False)
    if isinstance(book, Joined):
        return shown_joined(book.books, " or ")
    if isinstance(book, Met):
        return shown_joined(book.books, " and ")
    if isinstance(book, Less):
        return shown_joined([book.one, book.other], " but ")
    if isinstance(book, Turned):
        return ("not " + shown_part(book.one), False)
    return ("none", False)


def shown_part(book):
    """The text of a book as a part of another one."""
    shown = shown_whole(book)
    if shown[1]:
        return "(" + shown[0] + ")"
    return shown[0]


def shown_book(book):
    """The text of a book, without names."""
    return shown_whole(book)[0]
