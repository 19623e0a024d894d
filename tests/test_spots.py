import random
import re
import unittest

from second import BOOK, BOOKS, pieces_of, some_book, some_text
from tagmend.errors import NoSpot
from tagmend.reading import read_text
from tagmend.spots import source_of, spot_of
from tagmend.trees import part_at, places_in


def second_sources(book, text):
    """Each spot with its source: the signs of the runs that are not dropped are those of the tree's texts in their order."""
    tree, mends = read_text(book, text)
    dropped = [mend[:2] for mend in mends if mend[3] in ("blank", "deep")]
    sources = []
    for start, stop, kind, signs in pieces_of(text):
        if kind == "run" and (start, stop) not in dropped:
            sources.extend((start + found.start(), start + found.end()) for found in re.finditer(r"&[la];|[^~]|~", signs))
    spots = []
    for place in places_in(tree):
        part = part_at(tree, place)
        if isinstance(part, str):
            spots.extend((place, number) for number in range(len(part)))
    assert len(spots) == len(sources), (book, text)
    return dict(zip(spots, sources))


class SpotCase(unittest.TestCase):
    def spots(self, text, *spots):
        self.assertEqual([spot_of(BOOK, text, number) for number in range(len(text))], list(spots), text)

    def no_spot(self, ask, *asked):
        with self.assertRaises(NoSpot, msg=asked):
            ask(*asked)


class Spots(SpotCase):
    def test_run_alone(self):
        self.spots("xyz", ((0,), 0), ((0,), 1), ((0,), 2))
        self.assertEqual(spot_of((), "x", 0), ((0,), 0))

    def test_openings_and_closings(self):
        self.spots("<p>x</p>y", None, None, None, ((0, 0), 0), None, None, None, None, ((1,), 0))
        self.spots("<br>x", None, None, None, None, ((1,), 0))

    def test_dropped_tags(self):
        self.spots("<zzz></p>", *[None] * 9)

    def test_dropped_runs(self):
        self.spots("<list> \n", *[None] * 8)
        self.spots("<list> \n<item> ", *[None] * 14, ((0, 0, 0), 0))
        text = "<side>" * 19 + "<list>x&y"
        self.assertEqual([spot_of(BOOK, text, number) for number in (0, 119, 120, 121, 122)], [None] * 5)

    def test_runs_joined_over_what_is_dropped(self):
        self.spots("ab<zzz>c", ((0,), 0), ((0,), 1), *[None] * 5, ((0,), 2))
        self.spots("a</p>&l;</p>b", ((0,), 0), *[None] * 4, *[((0,), 1)] * 3, *[None] * 4, ((0,), 2))
        self.spots("x<c>a</p>b", ((0,), 0), *[None] * 3, ((1, 0), 0), *[None] * 4, ((1, 0), 1))

    def test_not_joined(self):
        self.spots("a<br>b", ((0,), 0), *[None] * 4, ((2,), 0))

    def test_escapes(self):
        self.spots("a&l;&a;b", ((0,), 0), *[((0,), 1)] * 3, *[((0,), 2)] * 3, ((0,), 3))
        self.spots("&a;l;", *[((0,), 0)] * 3, ((0,), 1), ((0,), 2))

    def test_lone_signs(self):
        self.spots("<&&l;<", ((0,), 0), ((0,), 1), *[((0,), 2)] * 3, ((0,), 3))
        self.spots("&l", ((0,), 0), ((0,), 1))

    def test_within_what_is_put_in(self):
        self.spots("<list>x", *[None] * 6, ((0, 0, 0), 0))
        self.spots("<deck>x", *[None] * 6, ((0, 0, 0, 0), 0))
        self.spots("<p>x<item>y", *[None] * 3, ((0, 0), 0), *[None] * 6, ((1, 0, 0), 0))

    def test_within_what_comes_anew(self):
        self.spots("<p><c></p>x</c>y", *[None] * 10, ((1, 0), 0), *[None] * 4, ((2,), 0))

    def test_refused(self):
        for text in ("", "x", "<p>x</p>", "<p>"):
            for number in (-1, -2, len(text), len(text) + 1, 10 ** 5000, -10 ** 5000):
                self.no_spot(spot_of, BOOK, text, number)


class Sources(SpotCase):
    def test_each_sign(self):
        text = "ab<p>&l;<&</p></p>c"
        told = {((0,), 0): (0, 1), ((0,), 1): (1, 2), ((1, 0), 0): (5, 8), ((1, 0), 1): (8, 9), ((1, 0), 2): (9, 10),
                ((2,), 0): (18, 19)}
        for (place, number), source in told.items():
            self.assertEqual(source_of(BOOK, text, place, number), source)

    def test_joined(self):
        self.assertEqual([source_of(BOOK, "a<zzz>&a;</p>b", (0,), number) for number in range(3)], [(0, 1), (6, 9), (13, 14)])

    def test_refused(self):
        text = "ab<p>x</p>"
        for place, number in (((), 0), ((1,), 0), ((2,), 0), ((3,), 0), ((-1,), 0), ((-2,), 0), ((1, 1), 0), ((1, -1), 0),
                              ((0, 0), 0), ((1, 0, 0), 0), ((0,), -1), ((0,), -2), ((0,), 2), ((1, 0), 1), ((1, 0), -1),
                              ((0,), 10 ** 5000), ((10 ** 5000,), 0), ((0,), -10 ** 5000), ((), -1)):
            self.no_spot(source_of, BOOK, text, place, number)

    def test_refused_where_nothing_stands(self):
        for place in ((), (0,), (-1,), (0, 0)):
            self.no_spot(source_of, BOOK, "", place, 0)
            self.no_spot(source_of, BOOK, "<p>", place, 0)
            self.no_spot(source_of, BOOK, "<list> ", place, 0)


class ManySpots(unittest.TestCase):
    def test_asked_twice(self):
        source = random.Random(27)
        for turn in range(300):
            book = source.choice(BOOKS) if turn % 2 else some_book(source)
            text = some_text(source, book, 12)
            sources = second_sources(book, text)
            numbers = {number: spot for spot in sources for number in range(*sources[spot])}
            for number in range(len(text)):
                self.assertEqual(spot_of(book, text, number), numbers.get(number), (book, text, number))
            for place, number in sources:
                told = source_of(book, text, place, number)
                self.assertEqual(told, sources[place, number], (book, text, place, number))
                for asked in range(*told):
                    self.assertEqual(spot_of(book, text, asked), (place, number), (book, text, asked))

    def test_long_texts(self):
        source = random.Random(270)
        for book in BOOKS:
            text = "".join([some_text(source, book, 300) for number in range(20)])[:4200]
            sources = second_sources(book, text)
            numbers = {number: spot for spot in sources for number in range(*sources[spot])}
            for number in source.sample(range(len(text)), min(10, len(text))):
                self.assertEqual(spot_of(book, text, number), numbers.get(number), (book, text, number))
            for place, number in source.sample(sorted(sources), min(10, len(sources))):
                self.assertEqual(source_of(book, text, place, number), sources[place, number])

    def test_same_asked_again(self):
        for number in range(2):
            self.assertEqual(spot_of(BOOK, "<p>x", 3), ((0, 0), 0))
            self.assertEqual(source_of(BOOK, "<p>x", (0, 0), 0), (3, 4))


if __name__ == "__main__":
    unittest.main()
