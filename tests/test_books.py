import itertools
import unittest

from tagmend.books import belongs, frame_of, host_of, is_book, sort_of


def row(name, sort="plain", host="", shuts=(), bars=()):
    return (name, sort, host, shuts, bars)


def frame(name, host, shuts=(), bars=()):
    return (name, "frame", host, shuts, bars)


BOOK = (
    row("p", shuts=("h", "p"), bars=("a",)),
    frame("table", "line"),
    row("h", shuts=("p",)),
    row("cell"),
    row("a", "anew", shuts=("a",), bars=("a",)),
    frame("line", "cell"),
    row("br", "bare"),
    row("room", "room", shuts=("a", "p"), bars=("cell", "h")),
    frame("list", "item", shuts=("p",)),
    row("item", bars=("item",)),
)


class BookCase(unittest.TestCase):
    def yes(self, *rows):
        self.assertIs(is_book(rows), True, rows)

    def no(self, *rows):
        self.assertIs(is_book(rows), False, rows)


class Names(BookCase):
    def test_lengths(self):
        self.yes(row("a"))
        self.yes(row("abcdefgh"))
        self.no(row(""))
        self.no(row("abcdefghi"))

    def test_edges_of_the_letters(self):
        self.yes(row("az"))
        for sign in "`{AZ01_- <&\n\u00e9\u0430":
            self.no(row("a" + sign))
            self.no(row(sign + "a"))
            self.no(row(sign))

    def test_keywords_are_no_names(self):
        self.no(row("shuts"))
        self.no(row("bars"))
        self.yes(row("shut"), row("bar"), row("shutss"), row("barss"))

    def test_keywords_are_no_hosts(self):
        self.no(row("shuts"), frame("f", "shuts"))
        self.no(row("bars"), frame("f", "bars"))

    def test_sorts_are_names_like_others(self):
        self.yes(row("plain"), frame("frame", "plain"), row("bare", "bare"))


class Rows(BookCase):
    def test_each_sort(self):
        for sort in ("bare", "plain", "anew", "room"):
            self.yes(row("a", sort))
        self.yes(frame("f", "a"), row("a"))

    def test_other_sorts(self):
        for sort in ("", "Plain", "plain ", "frames", "wall", "shuts", "a"):
            self.no(row("a", sort))

    def test_host_of_what_is_no_frame(self):
        for sort in ("bare", "plain", "anew", "room"):
            self.no(row("a", sort, "b"), row("b"))

    def test_frame_without_host(self):
        self.no(frame("f", ""))

    def test_shuts_and_bars_rise(self):
        named = (row("a"), row("ab"), row("b", "anew"))
        for names in ((), ("a",), ("a", "ab"), ("ab", "b"), ("a", "ab", "b")):
            self.yes(row("c", shuts=names), *named)
            self.yes(row("c", bars=names), *named)
        for names in (("b", "a"), ("ab", "a"), ("a", "b", "ab"), ("b", "a", "ab")):
            self.no(row("c", shuts=names), *named)
            self.no(row("c", bars=names), *named)

    def test_name_twice(self):
        for names in (("a", "a"), ("a", "b", "b"), ("a", "b", "a")):
            self.no(row("c", shuts=names), row("a"), row("b"))
            self.no(row("c", bars=names), row("a"), row("b"))

    def test_one_name_in_shuts_and_in_bars(self):
        self.yes(row("c", shuts=("a",), bars=("a",)), row("a"))

    def test_one_row_at_fault_among_others(self):
        self.no(*BOOK, row("Z"))
        self.no(row("Z"), *BOOK)


class Books(BookCase):
    def test_book(self):
        self.yes(*BOOK)
        self.yes(*reversed(BOOK))

    def test_how_many_rows(self):
        rows = [row(name) for name in "abcdefghijklmn"]
        self.yes()
        self.yes(*rows[:11])
        self.yes(*rows[:12])
        self.no(*rows[:13])
        self.no(*rows)

    def test_two_rows_of_one_name(self):
        self.no(row("a"), row("a"))
        self.no(row("a"), row("b"), row("a", "anew"))
        self.no(row("a"), frame("f", "a"), frame("f", "a"))

    def test_unknown_host(self):
        self.no(frame("f", "a"))
        self.no(frame("f", "a"), row("b"))

    def test_sorts_of_hosts(self):
        self.yes(frame("f", "a"), row("a"))
        self.yes(frame("f", "g"), frame("g", "a"), row("a"))
        for sort in ("bare", "anew", "room"):
            self.no(frame("f", "a"), row("a", sort))

    def test_host_of_two_frames(self):
        self.no(frame("f", "a"), frame("g", "a"), row("a"))
        self.yes(frame("f", "a"), frame("g", "b"), row("a"), row("b"))

    def test_rings_of_frames(self):
        self.no(frame("f", "f"))
        self.no(frame("f", "g"), frame("g", "f"))
        self.no(frame("f", "g"), frame("g", "h"), frame("h", "f"))
        self.no(row("a"), frame("e", "a"), frame("f", "g"), frame("g", "h"), frame("h", "f"))
        names = "abcdefghijkl"
        ring = [frame(name, after) for name, after in zip(names, names[1:] + names[:1])]
        self.no(*ring)
        self.yes(*ring[:11], row("l"))

    def test_way_into_a_ring(self):
        self.no(frame("e", "f"), frame("f", "g"), frame("g", "f"))

    def test_unknown_names(self):
        self.no(row("a", shuts=("z",)))
        self.no(row("a", bars=("z",)))
        self.no(row("a", shuts=("a", "z")))
        self.no(row("a", bars=("a", "z")))

    def test_sorts_in_shuts_and_bars(self):
        for sort in ("plain", "anew"):
            self.yes(row("b", shuts=("a",)), row("a", sort))
            self.yes(row("b", bars=("a",)), row("a", sort))
        for sort in ("bare", "room"):
            self.no(row("b", shuts=("a",)), row("a", sort))
            self.no(row("b", bars=("a",)), row("a", sort))
        self.no(row("b", shuts=("f",)), frame("f", "a"), row("a"))
        self.no(row("b", bars=("f",)), frame("f", "a"), row("a"))

    def test_host_in_shuts_and_bars(self):
        self.no(row("b", shuts=("a",)), frame("f", "a"), row("a"))
        self.no(row("a"), frame("f", "a"), row("b", shuts=("a",)))
        self.yes(row("b", bars=("a",)), frame("f", "a"), row("a"))

    def test_shuts_and_bars_of_a_host(self):
        self.no(row("b"), frame("f", "a"), row("a", shuts=("b",)))
        self.no(row("b"), frame("f", "g"), frame("g", "a", shuts=("b",)), row("a"))
        self.yes(row("b"), frame("f", "a"), row("a", bars=("b",)))
        self.yes(row("b"), frame("f", "a", shuts=("b",)), row("a"))

    def test_shuts_and_bars_on_each_sort(self):
        for sort in ("bare", "plain", "anew", "room"):
            self.yes(row("a", sort, shuts=("b",), bars=("b",)), row("b"))
        self.yes(frame("f", "a", shuts=("b",), bars=("b",)), row("a"), row("b"))

    def test_name_in_its_own(self):
        for sort in ("plain", "anew"):
            self.yes(row("a", sort, shuts=("a",)))
            self.yes(row("a", sort, bars=("a",)))
        for sort in ("bare", "room"):
            self.no(row("a", sort, shuts=("a",)))
            self.no(row("a", sort, bars=("a",)))
        self.no(frame("f", "a", shuts=("f",)), row("a"))
        self.no(frame("f", "a", bars=("f",)), row("a"))

    def test_every_small_book(self):
        # All books of three rows with these names, weighed by the words of point 5 a second time.
        kinds = [("plain", ""), ("anew", ""), ("room", "")] + [("frame", host) for host in "abcz"]
        lists = [((), ()), (("a",), ()), ((), ("b",)), (("c",), ("c",))]
        tails = [(sort, host, shuts, bars) for sort, host in kinds for shuts, bars in lists]
        for first, second, third in itertools.product(tails, repeat=3):
            rows = (("a",) + first, ("b",) + second, ("c",) + third)
            self.assertIs(is_book(rows), keeps_point_five(rows), rows)


def keeps_point_five(rows):
    sorts = {name: sort for name, sort, host, shuts, bars in rows}
    hosts = {name: host for name, sort, host, shuts, bars in rows if sort == "frame"}
    if len(set(hosts.values())) < len(hosts):
        return False
    for name in hosts:
        if sorts.get(hosts[name]) not in ("plain", "frame"):
            return False
        way = [name]
        while way[-1] in hosts:
            way.append(hosts[way[-1]])
            if way.count(way[-1]) > 1:
                return False
    named = {name for name in sorts if sorts[name] in ("plain", "anew")}
    free = named - set(hosts.values())
    for name, sort, host, shuts, bars in rows:
        if not set(shuts) <= free or not set(bars) <= named or (shuts and name in hosts.values()):
            return False
    return True


class Asked(unittest.TestCase):
    STRANGE = ("", " ", "zzz", "P", "shuts", "frame", "plain", "abcdefghijk", "a b", "<p>")

    def test_sort_of(self):
        sorts = [sort_of(BOOK, name) for name in ("p", "table", "a", "line", "br", "room", "item")]
        self.assertEqual(sorts, ["plain", "frame", "anew", "frame", "bare", "room", "plain"])

    def test_host_of(self):
        self.assertEqual(host_of(BOOK, "table"), "line")
        self.assertEqual(host_of(BOOK, "line"), "cell")
        self.assertEqual(host_of(BOOK, "list"), "item")
        for name in ("p", "cell", "a", "br", "room", "item"):
            self.assertIsNone(host_of(BOOK, name), name)

    def test_frame_of(self):
        self.assertEqual(frame_of(BOOK, "line"), "table")
        self.assertEqual(frame_of(BOOK, "cell"), "line")
        self.assertEqual(frame_of(BOOK, "item"), "list")
        for name in ("p", "table", "a", "br", "room", "list"):
            self.assertIsNone(frame_of(BOOK, name), name)

    def test_belongs(self):
        chain = (row("d"), frame("b", "c"), frame("a", "b"), frame("c", "d"), row("e"), frame("f", "e"))
        told = {("d", "c"), ("d", "b"), ("d", "a"), ("c", "b"), ("c", "a"), ("b", "a"), ("e", "f")}
        for name in "abcdefz":
            for other in "abcdefz":
                self.assertIs(belongs(chain, name, other), (name, other) in told, (name, other))

    def test_names_that_the_book_has_not(self):
        for name in self.STRANGE:
            self.assertIsNone(sort_of(BOOK, name), name)
            self.assertIsNone(host_of(BOOK, name), name)
            self.assertIsNone(frame_of(BOOK, name), name)
            for known in ("table", "line", "p", name):
                self.assertIs(belongs(BOOK, name, known), False)
                self.assertIs(belongs(BOOK, known, name), False)

    def test_book_without_rows(self):
        self.assertIsNone(sort_of((), "p"))
        self.assertIsNone(host_of((), "p"))
        self.assertIsNone(frame_of((), "p"))
        self.assertIs(belongs((), "p", "p"), False)


if __name__ == "__main__":
    unittest.main()
