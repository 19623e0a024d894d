"""Points 2 and 3: what holds for each book and each text, and for all answers."""

import copy
import itertools
import random
import unittest

from second import BOOK, BOOKS, second_reading, some_book, some_pieces, some_text, some_tree, without_faults
from tagmend.booktexts import read_book
from tagmend.faults import fault_of
from tagmend.feeds import Feed
from tagmend.reading import read_text
from tagmend.tokens import tokens_of
from tagmend.trees import levels_of, places_in, text_of
from tagmend.writing import mended, written

RULES = {"strange", "barred", "deep", "shut", "frame", "left", "late", "stray", "blank", "host", "anew", "sign", "end"}
DROPPED_RUNS = ("blank", "deep")


class WholeCase(unittest.TestCase):
    def holds(self, book, text):
        tree, mends = told = read_text(book, text)
        self.assertIsNone(fault_of(book, tree), (book, text))
        done = mended(text, mends)
        self.assertEqual(done, written(book, tree), (book, text))
        self.assertEqual(read_text(book, done), (tree, []), (book, text))
        self.assertEqual(text_of(tree), self.signs_left(text, mends), (book, text))
        self.assertEqual(read_text(book, text), told, (book, text))
        self.assertTrue(all(left[1] <= right[0] for left, right in zip(mends, mends[1:])), (book, text))
        self.assertEqual((tree, mends, done), second_reading(book, text), (book, text))
        self.comes_out_in_pieces(book, text, told)
        return mends

    def comes_out_in_pieces(self, book, text, told):
        feed = Feed(book)
        mends = []
        for piece in some_pieces(random.Random(text), text):
            mends.extend(feed.take(piece))
        mends.extend(feed.end())
        self.assertEqual((feed.tree(), mends), told, (book, text))

    def signs_left(self, text, mends):
        dropped = {mend[:2] for mend in mends if mend[3] in DROPPED_RUNS}
        runs = [token for token in tokens_of(text) if token[0] == "run"]
        return "".join(told for kind, start, stop, told in runs if (start, stop) not in dropped)


class ManyTexts(WholeCase):
    def test_books_made_by_hand(self):
        source = random.Random(3)
        seen = set()
        for number in range(1500):
            book = BOOKS[number % len(BOOKS)]
            seen.update(mend[3] for mend in self.holds(book, some_text(source, book, 60)))
        self.assertEqual(seen, RULES)

    def test_books_made_by_chance(self):
        source = random.Random(33)
        seen = set()
        for number in range(1500):
            book = some_book(source)
            seen.update(mend[3] for mend in self.holds(book, some_text(source, book, 60)))
        self.assertEqual(seen, RULES)

    def test_long_texts(self):
        source = random.Random(333)
        for book in BOOKS + tuple(some_book(source) for number in range(20)):
            text = some_text(source, book, 2)
            while len(text) < 4000:
                text = text + some_text(source, book, 300)
            self.holds(book, text[:4000])

    def test_each_row_of_few_tokens(self):
        book = read_book("p plain shuts p\na anew bars p\nf frame e\ne plain")
        tokens = ("<p>", "</p>", "<a>", "</a>", "<f>", "</f>", "<e>", "x", " ")
        for many in range(5):
            for chosen in itertools.product(tokens, repeat=many):
                self.holds(book, "".join(chosen))

    def test_signs_by_chance(self):
        source = random.Random(3333)
        book = read_book("p plain shuts p\nl anew\na bare")
        for number in range(2000):
            self.holds(book, "".join(source.choices("<</>>&;pla \n", k=source.randrange(40))))


class Own(WholeCase):
    """Point 2: nothing that is asked or done to an answer changes another one."""

    def test_changed_answers(self):
        text = "<p>x<list>y</p>&<zzz>"
        feed = Feed(BOOK)
        before = (read_text(BOOK, text), tokens_of(text), feed.take(text), places_in(read_text(BOOK, text)[0]))
        kept = copy.deepcopy(before)
        for number in range(2):
            asked = (read_text(BOOK, text), tokens_of(text), Feed(BOOK).take(text), places_in(kept[0][0]))
            self.assertEqual(asked, kept)
            for answer in (asked[0][1], asked[1], asked[2], asked[3]):
                answer.reverse()
                answer.append("changed")
        self.assertEqual(before, kept)
        self.assertEqual(kept[2] + feed.end(), kept[0][1])

    def test_mends_handed_back(self):
        text = "<p>x<list>y</p>&<zzz>"
        tree, mends = read_text(BOOK, text)
        kept = list(mends)
        mended(text, mends)
        self.assertEqual(mends, kept)
        self.assertEqual(mended(text, mends), written(BOOK, tree))

    def test_books_side_by_side(self):
        text = "<p>x<a>y<p>z"
        told = [read_text(book, text) for book in BOOKS]
        self.assertEqual([read_text(book, text) for book in reversed(BOOKS)], told[::-1])
        self.assertGreater(len({tree for tree, mends in told}), 2)


class ManyTrees(unittest.TestCase):
    def test_written_and_read(self):
        source = random.Random(30)
        levels = set()
        for number in range(700):
            book = BOOKS[number % len(BOOKS)] if number % 2 else some_book(source)
            tree = without_faults(book, some_tree(source, book, 7))
            self.assertEqual(read_text(book, written(book, tree)), (tree, []), (book, tree))
            levels.add(levels_of(tree))
        self.assertGreater(max(levels), 5)

    def test_large_tree(self):
        inner = (("p", ("x", ("br", ()))), ("list", (("item", ("<&",)), ("item", ()))), "y") * 900
        part = ("side", inner)
        for number in range(17):
            part = ("side", ("x", part, " "))
        tree = ("", (part,))
        self.assertIsNone(fault_of(BOOK, tree))
        self.assertEqual(read_text(BOOK, written(BOOK, tree)), (tree, []))


if __name__ == "__main__":
    unittest.main()
