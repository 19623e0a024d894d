import random
import unittest

from second import BOOK, BOOKS, Second, some_book, some_text
from tagmend.plans import closing, hosts_for, opening
from tagmend.reading import read_text
from tagmend.trees import names_above, places_in

DEEP_ROW = ("deck", "row", "cell")


class Closing(unittest.TestCase):
    def closes(self, number, names, name):
        self.assertEqual(closing(BOOK, names, name), number, (names, name))

    def test_none_open(self):
        for name in ("p", "side", "list", "item", "br", "zzz", ""):
            self.closes(None, (), name)

    def test_open_once(self):
        self.closes(0, ("p",), "p")
        self.closes(0, ("p", "h", "c"), "p")
        self.closes(1, ("p", "h", "c"), "h")
        self.closes(2, ("p", "h", "c"), "c")

    def test_open_several_times(self):
        self.closes(3, ("c", "h", "p", "c", "h"), "c")
        self.closes(4, ("c", "h", "p", "c", "h"), "h")
        self.closes(1, ("side", "side"), "side")
        self.closes(2, ("c", "side", "c", "h"), "c")
        self.closes(3, ("list", "item", "list", "item"), "item")

    def test_not_open(self):
        self.closes(None, ("p", "h"), "c")
        self.closes(None, ("list",), "item")
        self.closes(None, ("p",), "br")

    def test_name_that_the_book_has_not(self):
        for name in ("zzz", "", "shuts", "abcdefghij", "P", "<"):
            self.closes(None, ("p", "side", "h"), name)
            self.closes(None, ("p", "h"), name)

    def test_wall_that_does_not_belong_to_the_name(self):
        self.closes(None, ("p", "side"), "p")
        self.closes(None, ("p", "side", "h"), "p")
        self.closes(None, ("h", "list", "item"), "h")
        self.closes(None, ("list", "item", "side"), "item")
        self.closes(None, ("list", "item", "side"), "list")
        self.closes(None, ("side", "list", "item"), "side")
        self.closes(None, ("list", "item", "deck"), "list")
        self.closes(None, DEEP_ROW + ("list",), "cell")

    def test_wall_that_the_name_belongs_to(self):
        # Belonging goes one way only: a closing of what stands in a frame does not pass another frame of that name.
        self.closes(None, DEEP_ROW + ("deck",), "cell")
        self.closes(None, DEEP_ROW + ("deck",), "row")
        self.closes(None, DEEP_ROW + ("deck", "row"), "cell")
        self.closes(None, ("list", "item", "list"), "item")

    def test_wall_that_belongs_to_the_name(self):
        self.closes(0, ("deck", "row"), "deck")
        self.closes(0, DEEP_ROW, "deck")
        self.closes(1, ("side",) + DEEP_ROW + ("h", "c"), "deck")
        self.closes(3, DEEP_ROW + DEEP_ROW, "deck")

    def test_frame_farther_out(self):
        book = BOOKS[5]
        names = ("t", "g", "r", "d", "p")
        for number, name in enumerate(names):
            self.assertEqual(closing(book, names, name), number)

    def test_several_walls_of_both(self):
        self.closes(None, ("deck", "row", "cell", "side"), "deck")
        self.closes(None, ("deck", "row", "cell", "list", "item"), "deck")
        self.closes(3, ("deck", "row", "cell", "deck", "row", "cell"), "deck")
        self.closes(None, ("deck", "row", "cell", "list", "item", "deck", "row"), "list")

    def test_no_wall_in_between(self):
        self.closes(1, DEEP_ROW + ("h",), "row")
        self.closes(2, DEEP_ROW + ("h",), "cell")
        self.closes(0, ("list", "item"), "list")

    def test_the_wall_itself(self):
        self.closes(1, ("p", "side"), "side")
        self.closes(1, ("p", "side", "h"), "side")
        self.closes(0, ("list",), "list")
        self.closes(3, DEEP_ROW + ("list", "item"), "list")


class Opening(unittest.TestCase):
    def opens(self, kept, put, names, name):
        self.assertEqual(opening(BOOK, names, name), ("open", kept, put), (names, name))

    def drops(self, rule, names, name):
        self.assertEqual(opening(BOOK, names, name), ("drop", rule), (names, name))


class Hosts(Opening):
    def test_frame_is_the_last_one(self):
        self.opens(1, ("item",), ("list",), "item")
        self.opens(3, ("item",), ("p", "c", "list"), "item")
        self.opens(1, ("row",), ("deck",), "row")
        self.opens(2, ("cell",), ("deck", "row"), "cell")

    def test_frame_farther_out(self):
        self.opens(1, ("item",), ("list", "item"), "item")
        self.opens(1, ("item",), ("list", "item", "h", "c"), "item")
        self.opens(2, ("cell",), DEEP_ROW + ("c", "h"), "cell")
        self.opens(3, ("item",), ("list", "item", "list", "item", "p"), "item")

    def test_behind_a_wall_that_belongs_to_the_frame(self):
        self.opens(1, ("row",), ("deck", "row"), "row")
        self.opens(1, ("row",), DEEP_ROW, "row")
        self.opens(1, ("row",), DEEP_ROW + ("c", "h"), "row")
        self.opens(4, ("row",), DEEP_ROW + DEEP_ROW, "row")

    def test_behind_a_wall_that_does_not(self):
        self.opens(3, ("list", "item"), ("list", "item", "side"), "item")
        self.opens(4, ("list", "item"), ("list", "item", "side", "h"), "item")
        self.opens(5, ("deck", "row", "cell"), DEEP_ROW + ("list", "item"), "cell")
        self.opens(5, ("deck", "row"), DEEP_ROW + ("list", "item"), "row")
        self.opens(4, ("row", "cell"), DEEP_ROW + ("deck",), "cell")

    def test_not_open_at_all(self):
        self.opens(0, ("list", "item"), (), "item")
        self.opens(2, ("list", "item"), ("h", "c"), "item")
        self.opens(1, ("list", "item"), ("side",), "item")

    def test_frame_that_is_a_host(self):
        self.opens(0, ("deck", "row", "cell"), (), "cell")
        self.opens(0, ("deck", "row"), (), "row")
        self.opens(1, ("row", "cell"), ("deck",), "cell")
        self.opens(2, ("deck", "row", "cell"), ("p", "c"), "cell")
        self.assertEqual(opening(BOOKS[5], ("t",), "d"), ("open", 1, ("g", "r", "d")))
        self.assertEqual(opening(BOOKS[5], ("t", "g", "r", "d"), "r"), ("open", 2, ("r",)))

    def test_straight_in_another_frame(self):
        self.opens(1, ("item", "deck", "row", "cell"), ("list",), "cell")
        self.opens(1, ("row", "cell", "list", "item"), ("deck",), "item")
        self.opens(2, ("cell", "list", "item"), ("deck", "row"), "item")

    def test_frame_shuts(self):
        self.opens(0, ("list", "item"), ("p",), "item")
        self.opens(1, ("list", "item"), ("c", "p", "h"), "item")
        self.opens(2, ("list", "item"), ("p", "side"), "item")


class StraightInAFrame(Opening):
    def test_hosts_are_put(self):
        self.opens(1, ("item", "p"), ("list",), "p")
        self.opens(1, ("item", "br"), ("list",), "br")
        self.opens(3, ("item", "side"), ("p", "c", "list"), "side")

    def test_host_that_is_a_frame(self):
        self.opens(1, ("row", "cell", "p"), ("deck",), "p")
        self.opens(2, ("cell", "p"), ("deck", "row"), "p")
        self.assertEqual(opening(BOOKS[5], ("t",), "b"), ("open", 1, ("g", "r", "d", "b")))

    def test_another_frame(self):
        self.opens(1, ("item", "list"), ("list",), "list")
        self.opens(1, ("item", "deck"), ("list",), "deck")
        self.opens(1, ("row", "cell", "deck"), ("deck",), "deck")

    def test_a_room_is_no_frame(self):
        self.opens(1, ("p",), ("side",), "p")

    def test_nothing_is_shut(self):
        self.opens(2, ("item", "p"), ("h", "list"), "p")


class Shuts(Opening):
    def test_nothing_to_shut(self):
        for name in ("p", "h", "a", "b", "c", "br", "side", "list", "deck"):
            self.opens(0, (name,), (), name)
        self.opens(2, ("c",), ("p", "h"), "c")
        self.opens(1, ("p",), ("c",), "p")

    def test_one(self):
        self.opens(0, ("p",), ("h",), "p")
        self.opens(1, ("p",), ("c", "h"), "p")
        self.opens(1, ("p",), ("c", "h", "c"), "p")
        self.opens(0, ("br",), ("h",), "br")
        self.opens(0, ("list",), ("p",), "list")
        self.opens(0, ("side",), ("p", "c"), "side")

    def test_itself(self):
        self.opens(0, ("p",), ("p",), "p")
        self.opens(0, ("p",), ("p", "c"), "p")
        self.opens(1, ("b",), ("c", "b", "c"), "b")

    def test_the_outermost_counts(self):
        self.opens(0, ("p",), ("p", "h"), "p")
        self.opens(1, ("p",), ("c", "p", "c", "h", "h"), "p")
        self.opens(2, ("p",), ("h", "side", "h", "c", "h"), "p")

    def test_behind_a_wall(self):
        self.opens(2, ("p",), ("h", "side"), "p")
        self.opens(3, ("p",), ("h", "list", "item"), "p")
        self.opens(3, ("p",), ("p", "side", "c"), "p")
        self.opens(2, ("p",), ("p", "side", "p", "h"), "p")


class Barred(Opening):
    def test_near_ones(self):
        self.drops("barred", ("a",), "p")
        self.drops("barred", ("a", "c"), "p")
        self.drops("barred", ("a",), "a")
        self.drops("barred", ("h",), "a")
        self.drops("barred", ("a",), "br")
        self.drops("barred", ("side", "h"), "side")
        self.drops("barred", ("a",), "deck")

    def test_behind_a_wall(self):
        self.opens(2, ("p",), ("a", "side"), "p")
        self.opens(2, ("a",), ("a", "side"), "a")
        self.opens(2, ("side",), ("h", "side"), "side")
        self.drops("barred", ("p", "side", "a"), "p")

    def test_one_that_is_put_ahead_of_the_tag(self):
        self.drops("barred", ("a",), "row")
        self.drops("barred", ("a",), "cell")
        self.drops("barred", ("side", "c", "a"), "cell")

    def test_by_one_that_is_put_ahead_of_the_tag(self):
        self.drops("barred", ("list",), "c")
        self.opens(1, ("row", "cell", "c"), ("deck",), "c")
        self.drops("barred", ("list", "item"), "c")

    def test_what_lies_ahead_of_a_put_wall_does_not_bar(self):
        # The row bars h, the item bars h: both stand straight in their frames, which part them from it.
        self.opens(1, ("deck", "row", "cell"), ("h",), "cell")
        self.opens(1, ("list", "item"), ("h",), "item")

    def test_what_is_shut_no_longer_bars(self):
        self.opens(0, ("p",), ("h", "c"), "p")
        names = ("c", "p", "a")
        self.drops("barred", ("c", "a"), "p")
        self.opens(1, ("p",), names, "p")
        self.opens(0, ("list",), ("p", "c"), "list")
        self.opens(0, ("list", "item"), ("p", "h"), "item")

    def test_what_is_kept_still_bars(self):
        self.drops("barred", ("a", "h"), "p")
        self.drops("barred", ("a", "h"), "br")

    def test_ahead_of_deep(self):
        self.drops("barred", ("side",) * 19 + ("a",), "a")
        self.drops("barred", ("side",) * 20 + ("a",), "a")
        self.drops("barred", ("side",) * 19 + ("a",), "cell")
        self.drops("deep", ("side",) * 19 + ("a",), "c")


class Deep(Opening):
    def test_kept_and_put(self):
        self.opens(18, ("side",), ("side",) * 18, "side")
        self.opens(19, ("side",), ("side",) * 19, "side")
        self.drops("deep", ("side",) * 20, "side")
        self.drops("deep", ("side",) * 21, "side")
        self.drops("deep", ("side",) * 20, "br")

    def test_several_put(self):
        self.opens(18, ("list", "item"), ("side",) * 18, "item")
        self.drops("deep", ("side",) * 19, "item")
        self.opens(17, ("deck", "row", "cell"), ("side",) * 17, "cell")
        self.drops("deep", ("side",) * 18, "cell")

    def test_in_a_frame(self):
        self.opens(19, ("item",), ("side",) * 18 + ("list",), "item")
        self.drops("deep", ("side",) * 19 + ("list",), "item")
        self.opens(18, ("item", "p"), ("side",) * 17 + ("list",), "p")
        self.drops("deep", ("side",) * 18 + ("list",), "p")
        self.opens(17, ("row", "cell", "p"), ("side",) * 16 + ("deck",), "p")
        self.drops("deep", ("side",) * 17 + ("deck",), "p")

    def test_what_is_not_kept_does_not_count(self):
        self.opens(18, ("p",), ("side",) * 18 + ("p", "h"), "p")
        self.opens(19, ("p",), ("side",) * 19 + ("p",), "p")
        self.opens(19, ("p",), ("side",) * 19 + ("p", "c"), "p")
        self.opens(19, ("item",), ("side",) * 18 + ("list", "item"), "item")
        self.drops("deep", ("side",) * 19 + ("list", "item"), "item")


class HostsFor(unittest.TestCase):
    def hosts(self, hosts, *names):
        self.assertEqual(hosts_for(BOOK, names), hosts, names)

    def test_no_open_ones(self):
        self.hosts(())
        self.assertEqual(hosts_for((), ()), ())

    def test_no_frame(self):
        for name in ("p", "a", "side", "item", "cell"):
            self.hosts((), name)
        self.hosts((), "list", "item")
        self.hosts((), "deck", "row", "cell", "h")

    def test_frame(self):
        self.hosts(("item",), "list")
        self.hosts(("item",), "p", "side", "list")
        self.hosts(("cell",), "deck", "row")

    def test_host_that_is_a_frame(self):
        self.hosts(("row", "cell"), "deck")
        self.assertEqual(hosts_for(BOOKS[5], ("t",)), ("g", "r", "d"))

    def test_twenty_and_more(self):
        self.hosts((), *["side"] * 19)
        self.hosts((), *["side"] * 20)
        self.hosts(None, *["side"] * 21)
        self.hosts(("item",), *["side"] * 18, "list")
        self.hosts(None, *["side"] * 19, "list")
        self.hosts(("row", "cell"), *["side"] * 17, "deck")
        self.hosts(None, *["side"] * 18, "deck")
        self.hosts(("cell",), *["side"] * 17, "deck", "row")
        self.hosts(None, *["side"] * 18, "deck", "row")


class ManyPlans(unittest.TestCase):
    def test_weighed_twice(self):
        source = random.Random(16)
        seen = set()
        for number in range(400):
            book = source.choice(BOOKS) if number % 2 else some_book(source)
            tree = read_text(book, some_text(source, book, 60))[0]
            for names in sorted({names_above(tree, place) for place in places_in(tree)}):
                second = Second(book)
                second.names = list(names)
                for name in [row[0] for row in book] + ["zzz"]:
                    self.assertEqual(closing(book, names, name), second.find(name), (book, names, name))
                for name in [row[0] for row in book]:
                    plan = opening(book, names, name)
                    self.assertEqual(plan, second.weighed(name), (book, names, name))
                    seen.add(plan[:1] + plan[1:2] * (plan[0] == "drop"))
                hosts = tuple(second.hosts_in(names))
                self.assertEqual(hosts_for(book, names), None if len(names) + len(hosts) > 20 else hosts)
        self.assertEqual(seen, {("open",), ("drop", "barred"), ("drop", "deep")})

    def test_told_anew_and_the_same_again(self):
        names = ("list", "item", "p")
        for ask in (lambda: opening(BOOK, names, "cell"), lambda: hosts_for(BOOK, ("deck",)),
                    lambda: closing(BOOK, names, "list")):
            self.assertEqual(ask(), ask())
        self.assertEqual(names, ("list", "item", "p"))


if __name__ == "__main__":
    unittest.main()
