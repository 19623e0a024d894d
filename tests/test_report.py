import random
import unittest

from second import BOOK, BOOKS, some_book, some_text
from tagmend.booktexts import show_book
from tagmend.errors import NoBook, NoText
from tagmend.reading import read_text
from tagmend.report import report
from tagmend.trees import levels_of, part_at, places_in, text_of

TEXT = show_book(BOOK)


class Report(unittest.TestCase):
    def rows(self, text, *rows):
        self.assertEqual(report(TEXT, text), "\n".join(rows))

    def test_without_mends(self):
        self.rows("<p>x<br></p>y", "tags 2 signs 2 levels 2 mends 0")
        self.rows("abc", "tags 0 signs 3 levels 0 mends 0")

    def test_text_without_signs(self):
        self.rows("", "tags 0 signs 0 levels 0 mends 0")
        self.assertEqual(report("", ""), "tags 0 signs 0 levels 0 mends 0")

    def test_book_text_without_signs(self):
        self.assertEqual(report("", "x"), "tags 0 signs 1 levels 0 mends 0")
        self.assertEqual(report("", "<p>x"), "tags 0 signs 1 levels 0 mends 1\n0 3 strange")

    def test_numbers_of_the_first_row(self):
        self.rows("<p>&l;&a;x</p><side><side><br></side></side>", "tags 4 signs 3 levels 3 mends 0")
        self.rows("<p></p>" * 30, "tags 30 signs 0 levels 1 mends 0")
        self.rows("<side>" * 20 + "</side>" * 20, "tags 20 signs 0 levels 20 mends 0")
        # What is put in counts, what is dropped does not.
        self.rows("<deck>x<zzz>\n", "tags 3 signs 2 levels 3 mends 6", "6 6 host <row>", "6 6 host <cell>", "7 12 strange",
                  "13 13 end </cell>", "13 13 end </row>", "13 13 end </deck>")

    def test_each_rule(self):
        self.rows("<zzz>", "tags 0 signs 0 levels 0 mends 1", "0 5 strange")
        self.rows("<a><a></a>", "tags 1 signs 0 levels 1 mends 1", "3 6 barred")
        self.rows("<side>" * 21 + "</side>" * 20, "tags 20 signs 0 levels 20 mends 1", "120 126 deep")
        self.rows("<p><p></p>", "tags 2 signs 0 levels 1 mends 1", "3 3 shut </p>")
        self.rows("<item></item></list>", "tags 2 signs 0 levels 2 mends 1", "0 0 frame <list>")
        self.rows("<p><h></p>", "tags 2 signs 0 levels 2 mends 1", "6 6 left </h>")
        self.rows("<p><c></p></c>", "tags 2 signs 0 levels 2 mends 2", "6 6 left </c>", "10 14 late")
        self.rows("</p>", "tags 0 signs 0 levels 0 mends 1", "0 4 stray")
        self.rows("<list> </list>", "tags 1 signs 0 levels 1 mends 1", "6 7 blank")
        self.rows("<list>x</item></list>", "tags 2 signs 1 levels 2 mends 1", "6 6 host <item>")
        self.rows("<p><c></p>x</c>", "tags 3 signs 1 levels 2 mends 2", "6 6 left </c>", "10 10 anew <c>")
        self.rows("<&", "tags 0 signs 2 levels 0 mends 2", "0 1 sign &l;", "1 2 sign &a;")
        self.rows("<p>", "tags 1 signs 0 levels 1 mends 1", "3 3 end </p>")

    def test_no_line_end_behind_the_last_row(self):
        self.assertFalse(report(TEXT, "<p>").endswith("\n"))
        self.assertFalse(report(TEXT, "x").endswith("\n"))

    def test_book_text_refused(self):
        for text, row in (("p", 0), ("p plain\n", 1), ("p plain\nq plain \nx", 1), (" ", 0), ("\n", 0),
                          ("\n".join("abcdefghijklm"[number] + " plain" for number in range(13)), 12)):
            with self.assertRaises(NoText) as caught:
                report(text, "<p>x")
            self.assertEqual(caught.exception.row, row)
        for text, row in (("p plain\np plain", 1), ("p plain shuts q", 0), ("p plain\nq room\nlist frame item", 2)):
            with self.assertRaises(NoBook) as caught:
                report(text, "<p>x")
            self.assertEqual(caught.exception.row, row)

    def test_what_is_no_text_as_the_book_text(self):
        for text in (None, 1, ("p plain",), BOOK):
            with self.assertRaises(NoText) as caught:
                report(text, "<p>x")
            self.assertEqual(caught.exception.row, 0)

    def test_many(self):
        source = random.Random(29)
        for number in range(300):
            book = source.choice(BOOKS) if number % 2 else some_book(source)
            text = some_text(source, book, 60)
            tree, mends = read_text(book, text)
            tags = sum(isinstance(part_at(tree, place), tuple) for place in places_in(tree)) - 1
            rows = ["tags %d signs %d levels %d mends %d" % (tags, len(text_of(tree)), levels_of(tree), len(mends))]
            rows += [("%d %d %s %s" % (start, stop, rule, new)).rstrip(" ") for start, stop, new, rule in mends]
            self.assertEqual(report(show_book(book), text), "\n".join(rows), (book, text))
            self.assertEqual(report(show_book(book), text), "\n".join(rows), (book, text))


if __name__ == "__main__":
    unittest.main()
