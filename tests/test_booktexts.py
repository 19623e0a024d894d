import itertools
import unittest

from tagmend.books import is_book
from tagmend.booktexts import read_book, show_book
from tagmend.errors import NoBook, NoText

TEXT = "\n".join((
    "p plain shuts p h bars a",
    "list frame item",
    "h plain",
    "item plain bars p h",
    "a anew shuts a",
    "br bare",
    "side room bars a",
    "deck frame list shuts p bars h a",
))
BOOK = (
    ("p", "plain", "", ("h", "p"), ("a",)),
    ("list", "frame", "item", (), ()),
    ("h", "plain", "", (), ()),
    ("item", "plain", "", (), ("h", "p")),
    ("a", "anew", "", ("a",), ()),
    ("br", "bare", "", (), ()),
    ("side", "room", "", (), ("a",)),
    ("deck", "frame", "list", ("p",), ("a", "h")),
)
NAMES = "abcdefghijklmn"


def plain_rows(many):
    return [name + " plain" for name in NAMES[:many]]


class Refusals(unittest.TestCase):
    def refused(self, error, number, text):
        with self.assertRaises(error, msg=repr(text)) as caught:
            read_book(text)
        self.assertIs(type(caught.exception), error)
        self.assertEqual(caught.exception.row, number, repr(text))

    def no_text(self, number, *rows):
        self.refused(NoText, number, "\n".join(rows))

    def no_book(self, number, *rows):
        self.refused(NoBook, number, "\n".join(rows))


class Read(unittest.TestCase):
    def test_book(self):
        self.assertEqual(read_book(TEXT), BOOK)
        self.assertTrue(is_book(read_book(TEXT)))

    def test_text_without_signs(self):
        self.assertEqual(read_book(""), ())

    def test_rows_of_the_form(self):
        self.assertEqual(read_book("a plain"), (("a", "plain", "", (), ()),))
        self.assertEqual(read_book("a plain shuts a"), (("a", "plain", "", ("a",), ()),))
        self.assertEqual(read_book("a plain bars a"), (("a", "plain", "", (), ("a",)),))
        self.assertEqual(read_book("a plain shuts a bars a"), (("a", "plain", "", ("a",), ("a",)),))

    def test_each_sort(self):
        for sort in ("bare", "plain", "anew", "room"):
            self.assertEqual(read_book("a " + sort), (("a", sort, "", (), ()),))
        self.assertEqual(read_book("f frame a\na plain")[0], ("f", "frame", "a", (), ()))

    def test_sorts_as_names(self):
        book = read_book("frame frame plain\nplain plain\nbare bare bars plain")
        self.assertEqual(book[0], ("frame", "frame", "plain", (), ()))
        self.assertEqual(book[2], ("bare", "bare", "", (), ("plain",)))

    def test_twelve_rows(self):
        self.assertEqual([row[0] for row in read_book("\n".join(plain_rows(12)))], list(NAMES[:12]))

    def test_same_asked_again(self):
        self.assertEqual(read_book(TEXT), read_book(TEXT))
        self.assertEqual(show_book(BOOK), show_book(BOOK))


class TextsMissingTheForm(Refusals):
    ROWS = (
        "", " ", "a", "a ", " a", "plain", "a plain ", " a plain", "a  plain", "a plain  shuts a",
        "a plain shuts", "a plain shuts ", "a plain bars", "a plain shuts bars a", "a plain shuts a bars",
        "a plain shuts  a", "a plain shuts a ", "a plain shuts a  b", "a plain shuts a  bars a",
        "a plain bars a shuts a", "a plain shuts a shuts a", "a plain bars a bars a",
        "a plain shuts a bars a shuts a", "a plain shuts a bars a bars a", "a plain shuts shuts",
        "a plain a", "a plain a shuts a", "a plain plain", "a a plain", "plain a",
        "a frame", "a frame ", "a frame shuts a", "a frame bars a", "a frame shuts", "a frame a a", "a frame a b shuts a",
        "a wall", "a Plain", "a shuts a", "a bars a", "a plain Shuts a",
        "shuts plain", "bars plain", "shuts", "bars",
        "A plain", "a1 plain", "abcdefghi plain", "\u00e9 plain", "a-b plain",
        "a plain shuts A", "a plain shuts abcdefghi", "a plain bars a1", "a plain shuts a bars a,", "a frame A",
        "a frame abcdefghi", "a\tplain", "a plain\r", "a\u00a0plain", "a\u2028plain", "\ta plain", "a plain\x0bb plain",
    )

    def test_each_as_a_row_among_others(self):
        for row in self.ROWS:
            self.no_text(1, "x plain", row)
            self.no_text(1, "x plain", row, "y plain")
            self.no_text(0, row, "x plain")

    def test_each_by_itself(self):
        for row in self.ROWS:
            if row != "":
                self.no_text(0, row)

    def test_empty_rows(self):
        self.refused(NoText, 0, "\n")
        self.refused(NoText, 0, "\na plain")
        self.refused(NoText, 1, "a plain\n")
        self.refused(NoText, 1, "a plain\n\nb plain")

    def test_more_than_twelve_rows(self):
        self.no_text(12, *plain_rows(13))
        self.no_text(12, *plain_rows(14))
        self.no_text(12, *plain_rows(12), "")
        self.no_text(12, *plain_rows(12), "b wall")
        self.no_text(12, *plain_rows(12), "n plain", "b wall")

    def test_first_row_is_told(self):
        self.no_text(3, *plain_rows(3), "x", "y plain", "z")
        self.no_text(5, *plain_rows(5), "x", *plain_rows(14)[5:])

    def test_what_is_no_text(self):
        for what in (None, 0, 7, True, b"a plain", ["a plain"], ("a plain",), {}, BOOK):
            self.refused(NoText, 0, what)

    def test_goes_ahead_of_no_book(self):
        self.no_text(2, "a plain", "a plain", "b")
        self.no_text(1, "a plain shuts z", "b plain ", "a plain")
        self.no_text(12, *["a plain"] * 13)


class TextsThatTellNoBook(Refusals):
    def test_name_told_before(self):
        self.no_book(1, "a plain", "a plain")
        self.no_book(2, "a plain", "b plain", "a anew", "b anew")

    def test_name_twice(self):
        self.no_book(0, "a plain shuts a a")
        self.no_book(0, "a plain bars a a")
        self.no_book(1, "b plain", "a plain shuts a b a")
        self.no_book(1, "b plain", "a plain shuts a bars b a b")

    def test_once_in_each_is_no_fault(self):
        self.assertEqual(read_book("a plain shuts a bars a"), (("a", "plain", "", ("a",), ("a",)),))

    def test_hosts(self):
        self.no_book(0, "f frame a")
        self.no_book(1, "b plain", "f frame a")
        for sort in ("bare", "anew", "room"):
            self.no_book(1, "a " + sort, "f frame a")
            self.no_book(0, "f frame a", "a " + sort)

    def test_host_of_an_earlier_row(self):
        self.no_book(2, "f frame a", "a plain", "g frame a")
        self.no_book(1, "f frame a", "g frame a", "a plain", "h frame a")

    def test_frames_that_come_back(self):
        self.no_book(0, "f frame f")
        self.no_book(1, "a plain", "f frame g", "g frame f")
        self.no_book(2, "a plain", "e frame a", "h frame f", "f frame g", "g frame h")

    def test_way_into_a_ring_is_no_ring(self):
        # One comes back to f and to g, but never to e.
        self.no_book(1, "e frame f", "f frame g", "g frame f")
        self.no_book(0, "f frame g", "g frame f", "e frame f")

    def test_unknown_names(self):
        self.no_book(1, "a plain", "b plain shuts z")
        self.no_book(1, "a plain", "b plain bars z")
        self.no_book(1, "a plain", "b plain shuts a z bars a")
        self.no_book(1, "a plain", "b plain shuts a bars z a")

    def test_names_of_other_sorts(self):
        for key in ("shuts", "bars"):
            for sort in ("bare", "room"):
                self.no_book(1, "a " + sort, "b plain " + key + " a")
                self.no_book(0, "a " + sort + " " + key + " a")
            self.no_book(1, "c plain", "b plain " + key + " f", "f frame c")
            self.no_book(1, "c plain", "f frame c " + key + " f")

    def test_host_in_shuts(self):
        self.no_book(0, "b plain shuts a", "a plain", "f frame a")
        self.no_book(2, "f frame a", "a plain", "b plain shuts a")
        self.assertEqual(len(read_book("b plain bars a\na plain\nf frame a")), 3)

    def test_what_is_told_as_a_host_is_one_though_it_may_not_be(self):
        self.no_book(0, "b plain shuts a", "a anew", "f frame a")
        self.no_book(0, "a anew shuts b", "b plain", "f frame a")

    def test_shuts_in_the_row_of_a_host(self):
        self.no_book(1, "b plain", "a plain shuts b", "f frame a")
        self.no_book(2, "b plain", "f frame a", "a plain shuts b")
        self.no_book(2, "a plain", "b plain", "g frame a shuts b", "f frame g")
        self.no_book(0, "a plain shuts a", "f frame a")
        self.assertEqual(len(read_book("a plain bars a\nf frame a")), 2)

    def test_first_row_is_told_whatever_its_ground(self):
        self.no_book(1, "a plain", "b plain shuts z", "a plain")
        self.no_book(1, "a plain", "a plain", "b plain shuts z")
        self.no_book(0, "a plain shuts a", "f frame z", "g frame a")
        self.no_book(2, "a plain", "b plain", "c plain bars b b", "f frame f", "a plain")

    def test_later_rows_of_a_name_count_for_nothing(self):
        # the sort of a later row
        self.no_book(2, "b plain shuts a", "a plain", "a room")
        self.no_book(0, "b plain shuts a", "a room", "a plain")
        self.no_book(0, "f frame a", "a room", "a plain")
        self.no_book(2, "f frame a", "a plain", "a room")
        # its host: a is no host, is no other row's host, and no ring is closed
        self.no_book(3, "b plain shuts a", "a plain", "c plain", "c frame a")
        self.no_book(2, "c plain", "a plain shuts c", "c frame a")
        self.no_book(1, "c plain", "c frame a", "f frame a", "a plain")
        self.no_book(3, "f frame g", "g frame c", "c plain", "c frame f")
        # the first row's host does count
        self.no_book(1, "c frame a", "b plain shuts a", "a plain", "c plain")
        self.no_book(0, "c frame c", "c plain")
        # its shuts
        self.no_book(2, "f frame a", "a plain", "a plain shuts b", "b plain")


class Shown(unittest.TestCase):
    def test_book(self):
        self.assertEqual(show_book(BOOK), "\n".join((
            "p plain shuts h p bars a",
            "list frame item",
            "h plain",
            "item plain bars h p",
            "a anew shuts a",
            "br bare",
            "side room bars a",
            "deck frame list shuts p bars a h",
        )))

    def test_book_without_rows(self):
        self.assertEqual(show_book(()), "")

    def test_names_told_in_any_order_are_shown_rising(self):
        named = "\na plain\nab anew\nb plain"
        for names in itertools.permutations(("a", "ab", "b")):
            text = "c bare shuts " + " ".join(names) + " bars " + " ".join(reversed(names)) + named
            self.assertEqual(show_book(read_book(text)), "c bare shuts a ab b bars a ab b" + named)

    def test_names_that_do_not_rise_are_shown_rising(self):
        rows = (("c", "bare", "", ("b", "a"), ("ab", "a", "b")),)
        self.assertEqual(show_book(rows), "c bare shuts a b bars a ab b")

    def test_rows_keep_their_order(self):
        for rows in itertools.permutations(("c plain shuts a", "a plain", "f frame b", "b plain")):
            self.assertEqual(show_book(read_book("\n".join(rows))), "\n".join(rows))

    def test_what_is_shown_is_read_to_the_same_book(self):
        kinds = [("bare", ""), ("plain", ""), ("anew", ""), ("room", ""), ("frame", "a"), ("frame", "b"), ("frame", "c")]
        lists = [((), ()), (("a",), ("b", "c")), ((), ("a", "b")), (("b", "c"), ())]
        tails = [(sort, host, shuts, bars) for sort, host in kinds for shuts, bars in lists]
        books = 0
        for first, second, third in itertools.product(tails, repeat=3):
            rows = (("c",) + first, ("a",) + second, ("b",) + third)
            if is_book(rows):
                books += 1
                self.assertEqual(read_book(show_book(rows)), rows)
            else:
                with self.assertRaises(NoBook):
                    read_book(show_book(rows))
        self.assertGreater(books, 100)


if __name__ == "__main__":
    unittest.main()
