"""[0.2], [9.1] to [9.4]: books as texts."""

import random
import unittest

from fivefields.booktexts import read_book, shown_book
from fivefields.books import Book, Joined, Less, Met, Of, Turned
from fivefields.errors import FieldError, NoBook, NoName
from fivefields.rows import read_row
from fivefields.sheets import sheet_of

ROW = "[0 9 * * 1-5]"


def of(text):
    return Of(read_row(text))


A = of("0 9 * * 1-5")
B = Joined([of("0 12 * * *"), of("5 8 29 2 *")])
C = of("*/30 9-17 L,15W * 1#5")
NAMES = {"a": A, "b": B, "c": C, "lunch": B, "abcdefgh": C, "nor": A, "notes": B, "nones": C, "ora": A, "an": B}


def tree(book):
    """What a book is made of, with the names of the classes."""
    kind = type(book).__name__
    if isinstance(book, Of):
        return (kind, book.row.shown())
    if isinstance(book, (Joined, Met)):
        return (kind, [tree(one) for one in book.books])
    if isinstance(book, Less):
        return (kind, tree(book.one), tree(book.other))
    if isinstance(book, Turned):
        return (kind, tree(book.one))
    return (kind,)


def depths(kind, many):
    """A book Turned of Turned and so on."""
    book = kind
    for turn in range(many):
        book = Turned(book)
    return book


class Read(unittest.TestCase):
    def check(self, text, book):
        with self.subTest(text=text):
            self.assertEqual(tree(read_book(text, NAMES)), tree(book))

    def test_each_part(self):
        self.check(ROW, A)
        self.check("a", A)
        self.check("none", Book())
        self.check("not a", Turned(A))
        self.check("(a)", A)
        self.check("not none", Turned(Book()))
        self.check("not [0 12 * * *]", Turned(of("0 12 * * *")))
        self.check("not (a)", Turned(A))
        self.check("not not a", Turned(Turned(A)))
        self.check("(not a)", Turned(A))
        self.check("((none))", Book())

    def test_each_whole_text(self):
        self.check("a or b", Joined([A, B]))
        self.check("a or b or c or a", Joined([A, B, C, A]))
        self.check("a and b", Met([A, B]))
        self.check("c and b and a", Met([C, B, A]))
        self.check("a but b", Less(A, B))
        self.check("b but a", Less(B, A))
        self.check("none or none", Joined([Book(), Book()]))
        self.check(f"{ROW} but {ROW}", Less(A, A))
        self.check(f"{ROW} or none or c", Joined([A, Book(), C]))

    def test_within_one_another(self):
        self.check("a or (b and c)", Joined([A, Met([B, C])]))
        self.check("(a or b) and c", Met([Joined([A, B]), C]))
        self.check("(a or b) or c", Joined([Joined([A, B]), C]))
        self.check("a but (b but c)", Less(A, Less(B, C)))
        self.check("(a but b) but c", Less(Less(A, B), C))
        self.check("not a or b", Joined([Turned(A), B]))
        self.check("not (a or c)", Turned(Joined([A, C])))
        self.check("a and not b and not none", Met([A, Turned(B), Turned(Book())]))
        self.check("not not (not a but none)", Turned(Turned(Less(Turned(A), Book()))))
        self.check("((a or (b)))", Joined([A, B]))
        self.check("(a) or (b)", Joined([A, B]))
        self.check(f"not ({ROW} and (none or a))", Turned(Met([A, Joined([Book(), A])])))

    def test_names_tell_the_very_book(self):
        for name, book in NAMES.items():
            self.assertIs(read_book(name, NAMES), book)
            self.assertIs(read_book(f"(({name}))", NAMES), book)
            self.assertIs(read_book(f"not {name}", NAMES).one, book)
        joined = read_book("a or lunch or abcdefgh", NAMES)
        self.assertEqual([one is other for one, other in zip(joined.books, (A, B, C))], [True] * 3)
        less = read_book("nor but notes", NAMES)
        self.assertTrue(less.one is A and less.other is B)
        self.assertIs(read_book("nones", NAMES), C)
        self.assertIs(read_book("ora or an", NAMES).books[1], B)

    def test_rows(self):
        for row in ("* * * * *", "*/20,5-7 9 LW,15W * 1#5,5L", "0 0 L-3 2 7"):
            self.assertEqual(read_book(f"[{row}]", {}).row.shown(), read_row(row).shown())

    def test_names_are_not_changed(self):
        names = dict(NAMES)
        book = read_book("a or b", names)
        self.assertEqual(names, NAMES)
        names["a"] = Book()
        names.pop("b")
        self.assertEqual(tree(book), tree(Joined([A, B])))

    def test_brackets_alone_make_nothing_deeper(self):
        self.assertIs(read_book("(" * 10 + "a" + ")" * 10, NAMES), A)
        self.check("(" * 9 + "a or b" + ")" * 9, Joined([A, B]))
        self.check("(" * 5 + "not not (((a)))" + ")" * 5, Turned(Turned(A)))
        self.check("(" * 8 + "not (a or b)" + ")" * 8, Turned(Joined([A, B])))
        self.check("(" * 10 + "a or b" + ")" * 10, Joined([A, B]))


class Refused(unittest.TestCase):
    def refuse(self, text, kind, name=None):
        with self.subTest(text=text):
            with self.assertRaises(FieldError) as caught:
                read_book(text, NAMES)
            self.assertIs(type(caught.exception), kind)
            if kind is NoName:
                self.assertEqual(caught.exception.name, name)

    def test_what_is_no_text(self):
        for thing in (None, 5, True, ["a"], ("a",), A, read_row("0 9 * * *"), {"a": A}):
            self.refuse(thing, NoBook)

    def test_what_is_not_so_written(self):
        for text in ("", " ", "a b", "a or", "or a", "or", "and", "but", "not", "not or", "a or or b", "a not b", "()",
                     "(a", "(a ", "(a]", "(a[", "(ab", "((a) ", "not (a]", "a)",
                     "(a))", "((a)", ")", "(", "[", "]", "[]", "a or ()", "A", "a1", "a_b", "1", "*", "a,b",
                     "a orb", "aor b", "a OR b", "a Or b", "not(a)", "not[0 9 * * *]", "a or(b)", "(a)or b", "(a)(b)",
                     "a or b)", "nota", "xyz or", "a\tor b", "a\nor b", "a\n", "\ta", "a or\tb", "none none", "none a",
                     "a or b or", "a and", "a but", "but a", "[0 9 * * 1-5", "0 9 * * 1-5", "[[0 9 * * 1-5]]",
                     "{a}", "[0 9 * * 1-5]]", "a | b", "not", "not ", "not not", "abcdefghi", "thisistoolong"):
            self.refuse(text, NoBook if text != "nota" else NoName, "nota")

    def test_blanks_too_many_and_too_few(self):
        for text in (" a", "a ", "a  or b", "a or  b", "not  a", "( a)", "(a )", "( a or b )", "(a or b )", "a or b ",
                     " not a", "not a ", "a  but b", "a but  b", "a and  b", f" {ROW}", f"{ROW} ", "(a)  or (b)",
                     f"{ROW}or b", f"a or{ROW}", "aorb or", "( )", "(not a )", "[0 9 * * 1-5 ]", "[ 0 9 * * 1-5]",
                     "[0  9 * * 1-5]"):
            self.refuse(text, NoBook)

    def test_unlike_words_without_brackets(self):
        for text in ("a or b and c", "a and b or c", "a or b but c", "a but b or c", "a and b but c", "a but b and c",
                     "(a or b and c)", "not a or b and c", "a or (b and c or a)"):
            self.refuse(text, NoBook)

    def test_three_parts_with_but(self):
        for text in ("a but b but c", "(a but b but c)", "a but b but c but a", "a or (a but b but c)"):
            self.refuse(text, NoBook)

    def test_kept_words_and_long_texts_are_no_names(self):
        names = dict(NAMES)
        for word in ("or", "and", "but", "not", "abcdefghi", "A", "a1", ""):
            names[word] = A
            for text in (word, f"not {word}", f"({word})", f"{word} or a", f"a but {word}"):
                with self.assertRaises(NoBook):
                    read_book(text, names)
        names["none"] = A
        self.assertEqual(tree(read_book("none", names)), ("Book",))

    def test_a_row_that_is_refused(self):
        for row in ("", "0 9 * *", "0 9 * * 1-5 *", "60 9 * * *", "0 24 * * *", "0 0 32 * *", "0 0 * 13 *", "0 0 * * 8",
                    "0 9 * * 1-5]", "[0 9 * * 1-5", "0\t9 * * 1-5", "a", "0 9 * * *\n", "* " * 4 + "*" + "1" * 1600):
            for text in (f"[{row}]", f"not [{row}]", f"a or [{row}]", f"([{row}] but b)"):
                self.refuse(text, NoBook)

    def test_brackets_and_nots(self):
        self.assertIs(read_book("(" * 10 + "a" + ")" * 10, NAMES), A)
        self.refuse("(" * 11 + "a" + ")" * 11, NoBook)
        self.refuse("(" * 5 + "not " * 6 + "a" + ")" * 5, NoBook)
        self.refuse("(" * 10 + "not a" + ")" * 10, NoBook)
        self.refuse("a or " + "(" * 11 + "b" + ")" * 11, NoBook)
        self.refuse("not " * 11 + "x", NoBook)
        self.refuse("(" * 11 + "x" + ")" * 11, NoBook)
        self.refuse("(" * 9 + "x or (y and (c))" + ")" * 9, NoBook)
        # Ten of them are so written: then names are asked for, and then the books.
        self.refuse("not " * 10 + "x", NoName, "x")
        self.refuse("(" * 4 + "not " * 6 + "x" + ")" * 4, NoName, "x")
        self.refuse("(" * 9 + "c or (x and c)" + ")" * 9, NoName, "x")
        self.refuse("not " * 10 + "a", NoBook)
        for many in (1000, 100000):
            self.refuse("(" * many + "a" + ")" * many, NoBook)
            self.refuse("not " * many + "a", NoBook)

    def test_the_first_unknown_name(self):
        self.refuse("x", NoName, "x")
        self.refuse("a or x or y", NoName, "x")
        self.refuse("y but x", NoName, "y")
        self.refuse("(a and (b or zebra)) but x", NoName, "zebra")
        self.refuse("not (x or y)", NoName, "x")
        self.refuse(f"{ROW} or none or q", NoName, "q")
        self.refuse("nothing", NoName, "nothing")
        self.refuse("nonea or x", NoName, "nonea")
        with self.assertRaises(NoName) as caught:
            read_book("a", {})
        self.assertEqual(caught.exception.name, "a")

    def test_what_is_not_so_written_comes_ahead_of_names(self):
        for text in ("x or", "x or [60 9 * * *]", "[60 9 * * *] or x", "x and y or z", "x  or y", "x but y but z", "(x",
                     "x or A", "x or abcdefghi", "x or " + "(" * 11 + "a" + ")" * 11, "x y"):
            self.refuse(text, NoBook)

    def test_names_come_ahead_of_what_books_refuse(self):
        self.refuse(" or ".join(["a"] * 9), NoBook)
        self.refuse(" or ".join(["a"] * 8 + ["x"]), NoName, "x")
        self.refuse(" or ".join(["a"] * 500 + ["x"]), NoName, "x")
        self.refuse("not " * 5 + "x", NoName, "x")
        eights = " or ".join(["(" + " or ".join(["a"] * 8) + ")"] * 3)
        self.refuse(eights, NoBook)
        self.refuse(eights + " or x", NoName, "x")

    def test_what_books_refuse(self):
        for joint in ("or", "and"):
            self.assertEqual(read_book(f" {joint} ".join(["a"] * 8), NAMES).tally(), 9)
            self.refuse(f" {joint} ".join(["a"] * 9), NoBook)
            self.refuse(f"not ({f' {joint} '.join(['a'] * 9)})", NoBook)
        seven = "(" + " or ".join([ROW] * 7) + ")"
        six = "(" + " and ".join([ROW] * 6) + ")"
        self.assertEqual(read_book(f"{seven} or {seven} or {six}", {}).tally(), 24)
        self.refuse(f"{seven} or {seven} or {seven}", NoBook)
        self.refuse(f"{seven} or {seven} or {six} or a", NoBook)
        self.refuse(f"not ({seven} or {seven} or {six})", NoBook)
        self.assertEqual(read_book("not not not not a", NAMES).depth(), 5)
        self.refuse("not not not not not a", NoBook)
        self.assertEqual(read_book("not (a or (b but (c)))", NAMES).depth(), 5)
        self.refuse("not (a or (a but (a and not not a)))", NoBook)
        # A name's book counts with all within it.
        names = {"deep": depths(A, 4), "wide": read_book(f"{seven} or {seven} or {six}", {})}
        for text in ("not deep", "deep or none", "not wide", "wide but none"):
            with self.assertRaises(NoBook):
                read_book(text, names)
        self.assertIs(read_book("(deep)", names), names["deep"])


class Shown(unittest.TestCase):
    def test_each_class(self):
        for book, text in (
                (A, ROW), (Book(), "none"), (Turned(A), f"not {ROW}"), (Turned(Book()), "not none"),
                (Turned(Turned(A)), f"not not {ROW}"), (Joined([A, Book()]), f"{ROW} or none"),
                (Met([A, Book(), A]), f"{ROW} and none and {ROW}"), (Less(Book(), A), f"none but {ROW}"),
                (of("*/30 9-10 L,15W,3 * 1#5,7L"), "[0,30 9-10 3,L,15W * 1#5,0L]")):
            self.assertEqual(shown_book(book), text)

    def test_within_one_another(self):
        none = Book()
        for book, text in (
                (Joined([Joined([none, none]), none]), "(none or none) or none"),
                (Joined([none, Met([none, none])]), "none or (none and none)"),
                (Met([Less(none, none), Turned(none)]), "(none but none) and not none"),
                (Less(Joined([none, none]), Met([none, none])), "(none or none) but (none and none)"),
                (Turned(Joined([none, none])), "not (none or none)"),
                (Turned(Met([none, none])), "not (none and none)"),
                (Turned(Less(none, none)), "not (none but none)"),
                (Joined([Turned(Less(none, none)), none]), "not (none but none) or none"),
                (Less(Turned(Turned(none)), Turned(none)), "not not none but not none")):
            self.assertEqual(shown_book(book), text)

    def test_of_one_book_alone(self):
        none = Book()
        for book, text in (
                (Joined([A]), ROW), (Met([A]), ROW), (Joined([Met([Joined([none])])]), "none"),
                (Turned(Joined([A])), f"not {ROW}"), (Joined([Joined([A, none])]), f"{ROW} or none"),
                (Met([Joined([A, none]), none]), f"({ROW} or none) and none"),
                (Joined([Met([A]), none]), f"{ROW} or none"), (Less(Met([A]), Joined([none])), f"{ROW} but none"),
                (Turned(Met([Less(none, none)])), "not (none but none)"),
                (Joined([none, Met([Less(none, A)])]), f"none or (none but {ROW})")):
            self.assertEqual(shown_book(book), text)

    def made(self, chance, depth, most):
        """A book made by chance, of that depth at most and with so many books about at most."""
        if depth == 1 or most <= 2 or chance.random() < 0.15:
            return Book() if chance.random() < 0.2 else chance.choice((A, C, of("0 0 29 2 *"), of("*/7 * * * 1-3")))
        kind = chance.randrange(4)
        if kind == 0:
            return Turned(self.made(chance, depth - 1, most - 1))
        if kind == 1:
            half = (most - 1) // 2
            return Less(self.made(chance, depth - 1, half), self.made(chance, depth - 1, half))
        many = chance.randrange(1, min(4, most - 1) + 1)
        books = [self.made(chance, depth - 1, (most - 1) // many) for turn in range(many)]
        return Joined(books) if kind == 2 else Met(books)

    def test_shown_and_read_again(self):
        chance = random.Random(94)
        names = {"none": A, "or": B, "a": C}
        for turn in range(150):
            book = self.made(chance, 5, 24)
            text = shown_book(book)
            again = read_book(text, names if turn % 2 else {})
            self.assertLessEqual(again.tally(), book.tally())
            self.assertLessEqual(again.depth(), book.depth())
            self.assertEqual(shown_book(again), text)
            if turn % 5 == 0:
                self.assertEqual(sheet_of(again), sheet_of(book))

    def test_the_deepest_and_the_greatest(self):
        for book in (depths(A, 4), Turned(Joined([Turned(Less(A, C)), A])),
                     Joined([Joined([C] * 7)] * 2 + [Met([A] * 6)]),
                     Less(A, Less(A, Less(A, Less(A, C))))):
            self.assertEqual(tree(read_book(shown_book(book), {})), tree(book))

    def test_read_and_shown(self):
        for text in ("none", ROW, f"not {ROW}", f"{ROW} or none", f"({ROW} and none) but not ({ROW} or none)",
                     f"not not ({ROW} but none)"):
            self.assertEqual(shown_book(read_book(text, {})), text)
        self.assertEqual(shown_book(read_book("((a)) or (b)", NAMES)), f"{ROW} or ([0 12 * * *] or [5 8 29 2 *])")

    def test_a_book_is_not_changed(self):
        books = [A, Turned(B)]
        book = Joined(books)
        text = shown_book(book)
        books.append(C)
        self.assertEqual(shown_book(book), text)
        self.assertEqual(len(book.books), 2)


if __name__ == "__main__":
    unittest.main()
