"""Point 3: what holds for each book and each text."""

import itertools
import random
import unittest

from second import BOOK, BOOKS, second_reading, some_book, some_text, some_tree, without_faults
from tagmend.booktexts import read_book
from tagmend.faults import fault_of
from tagmend.reading import read_text
from tagmend.tokens import tokens_of
from tagmend.trees import levels_of, text_of
from tagmend.writing import mended, written

RULES = {"strange", "barred", "deep", "shut", "frame", "left", "late", "stray", "blank", "host", "anew", "sign", "end"}
DROPPED_RUNS = ("blank", "deep")


class WholeCase(unittest.TestCase):
    def holds(self, book, text):
        tree, mends = told = read_text(book, text)
        self.assertIsNone(fault_of(book, tree), (book, text))
        done = mended(text, mends)
        self.assertEqual(done, written(book, tree), (book, text))
        self.assertEqual(read_text(book, done), (tree, []), (book, text))
        self.assertEqual(text_of(tree), self.signs_left(text, mends), (book, text))
        self.assertEqual(read_text(book, text), told, (book, text))
        self.assertTrue(all(left[1] <= right[0] for left, right in zip(mends, mends[1:])), (book, text))
        self.assertEqual((tree, mends, done), second_reading(book, text), (book, text))
        return mends

    def signs_left(self, text, mends):
        dropped = {mend[:2] for mend in mends if mend[3] in DROPPED_RUNS}
        runs = [token for token in tokens_of(text) if token[0] == "run"]
        return "".join(told for kind, start, stop, told in runs if (start, stop) not in dropped)


class ManyTexts(WholeCase):
    def test_books_made_by_hand(self):
        source = random.Random(3)
        seen = set()
        for number in range(1500):
            book = BOOKS[number % len(BOOKS)]
            seen.update(mend[3] for mend in self.holds(book, some_text(source, book, 60)))
        self.assertEqual(seen, RULES)

    def test_books_made_by_chance(self):
        source = random.Random(33)
        seen = set()
        for number in range(1500):
            book = some_book(source)
            seen.update(mend[3] for mend in self.holds(book, some_text(source, book, 60)))
        self.assertEqual(seen, RULES)

    def test_long_texts(self):
        source = random.Random(333)
        for book in BOOKS + tuple(some_book(source) for number in range(20)):
            text = some_text(source, book, 2)
            while len(text) < 4000:
                text = text + some_text(source, book, 300)
            self.holds(book, text[:4000])

    def test_each_row_of_few_tokens(self):
        book = read_book("p plain shuts p\na anew bars p\nf frame e\ne plain")
        tokens = ("<p>", "</p>", "<a>", "</a>", "<f>", "</f>", "<e>", "x", " ")
        for many in range(5):
            for chosen in itertools.product(tokens, repeat=many):
                self.holds(book, "".join(chosen))

    def test_signs_by_chance(self):
        source = random.Random(3333)
        book = read_book("p plain shuts p\nl anew\na bare")
        for number in range(2000):
            self.holds(book, "".join(source.choices("<</>>&;pla \n", k=source.randrange(40))))


class ManyTrees(unittest.TestCase):
    def test_written_and_read(self):
        source = random.Random(30)
        levels = set()
        for number in range(700):
            book = BOOKS[number % len(BOOKS)] if number % 2 else some_book(source)
            tree = without_faults(book, some_tree(source, book, 7))
            self.assertEqual(read_text(book, written(book, tree)), (tree, []), (book, tree))
            levels.add(levels_of(tree))
        self.assertGreater(max(levels), 5)

    def test_large_tree(self):
        inner = (("p", ("x", ("br", ()))), ("list", (("item", ("<&",)), ("item", ()))), "y") * 900
        part = ("side", inner)
        for number in range(17):
            part = ("side", ("x", part, " "))
        tree = ("", (part,))
        self.assertIsNone(fault_of(BOOK, tree))
        self.assertEqual(read_text(BOOK, written(BOOK, tree)), (tree, []))


if __name__ == "__main__":
    unittest.main()
