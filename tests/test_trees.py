import unittest

from tagmend.errors import NoPlace
from tagmend.trees import levels_of, names_above, near_of, part_at, places_in, text_of

ITEM = ("item", ("one", ("b", ("two", ("br", ()))), "three"))
TREE = ("", ("x", ("p", ()), ("list", (ITEM, ("item", ()))), "", "y"))
PLACES = [
    (), (0,), (1,), (2,), (2, 0), (2, 0, 0), (2, 0, 1), (2, 0, 1, 0), (2, 0, 1, 1), (2, 0, 2), (2, 1), (3,), (4,),
]
NOWHERE = [
    (10 ** 5000,), (-10 ** 5000,), (2, 10 ** 5000), (10 ** 5000, 0),
    (5,), (6,), (99,), (-1,), (-5,), (-6,),
    (0, 0), (0, -1), (0, 1), (3, 0), (3, -1), (4, 0), (0, 0, 0),
    (1, 0), (1, -1), (1, 0, 0),
    (2, 2), (2, -1), (2, -2), (2, 0, 3), (2, 0, -1), (2, 0, 1, 2), (2, 0, 1, -1), (2, 0, 1, 0, 0), (2, 0, 1, 1, 0),
    (5, 0), (5, 0, 0), (-1, 0), (2, 2, 0), (2, -1, 0), (2, -1, 0, 0), (99, 0, 0, 0, 0),
]
BOOK = (
    ("p", "plain", "", (), ()),
    ("a", "anew", "", (), ()),
    ("br", "bare", "", (), ()),
    ("side", "room", "", (), ()),
    ("list", "frame", "item", (), ()),
    ("item", "plain", "", (), ()),
    ("deck", "frame", "list", (), ()),
)


def nested(depth, innermost=()):
    # As many trees within one another, in a root.
    parts = innermost
    for level in range(depth):
        parts = (("a" * (level % 8 + 1), parts),)
    return ("", parts)


def wide_and_deep():
    # Above eight thousand parts, forty levels: at each level two hundred parts, and behind them the next level.
    parts = ("t",)
    for level in range(40):
        parts = ("x", ("p", ())) * 100 + (("a", parts),)
    return ("", parts)


class PartAt(unittest.TestCase):
    def test_root(self):
        self.assertEqual(part_at(TREE, ()), TREE)
        self.assertEqual(part_at(("", ()), ()), ("", ()))

    def test_parts(self):
        told = [part_at(TREE, place) for place in PLACES]
        self.assertEqual(told, [
            TREE, "x", ("p", ()), TREE[1][2], ITEM, "one", ITEM[1][1], "two", ("br", ()), "three", ("item", ()), "", "y",
        ])

    def test_leads_nowhere(self):
        for place in NOWHERE:
            with self.assertRaises(NoPlace, msg=place):
                part_at(TREE, place)

    def test_root_without_parts(self):
        for place in ((0,), (-1,), (0, 0)):
            with self.assertRaises(NoPlace, msg=place):
                part_at(("", ()), place)

    def test_deep(self):
        tree = nested(45, ("x",))
        self.assertEqual(part_at(tree, (0,) * 46), "x")
        for place in ((0,) * 47, (0,) * 45 + (1,), (0,) * 45 + (-1,), (1,) + (0,) * 45):
            with self.assertRaises(NoPlace, msg=place):
                part_at(tree, place)


class Listed(unittest.TestCase):
    def test_places(self):
        self.assertEqual(places_in(TREE), PLACES)
        self.assertEqual(places_in(("", ())), [()])
        self.assertEqual(places_in(("", ("x",))), [(), (0,)])
        self.assertEqual(places_in(("", (("a", ("x",)), ("b", ("y",))))), [(), (0,), (0, 0), (1,), (1, 0)])

    def test_more_than_ten_parts(self):
        tree = ("", ("x", ("a", ("y",))) * 6)
        rising = sorted([()] + [(number,) for number in range(12)] + [(number, 0) for number in range(1, 12, 2)])
        self.assertEqual(places_in(tree), rising)

    def test_places_are_told_anew(self):
        first = places_in(TREE)
        first.clear()
        self.assertEqual(places_in(TREE), PLACES)
        self.assertEqual(set(map(type, places_in(TREE))), {tuple})

    def test_text(self):
        self.assertEqual(text_of(TREE), "xonetwothreey")
        self.assertEqual(text_of(("", ())), "")
        self.assertEqual(text_of(("", (("a", ()), ("b", ())))), "")
        self.assertEqual(text_of(("", ("", ("a", ("",)), ""))), "")
        self.assertEqual(text_of(("", ("1", "", "2", ("a", ("3", ("b", ("4",)), "", "5")), "6"))), "123456")

    def test_text_is_not_escaped(self):
        self.assertEqual(text_of(("", ("<", ("a", ("&l;", "\n")), "&"))), "<&l;\n&")

    def test_levels(self):
        self.assertEqual(levels_of(("", ())), 0)
        self.assertEqual(levels_of(("", ("",))), 0)
        self.assertEqual(levels_of(("", ("x", "y"))), 0)
        self.assertEqual(levels_of(("", (("a", ()),))), 1)
        self.assertEqual(levels_of(("", (("a", ("x",)), "y"))), 1)
        self.assertEqual(levels_of(("", (("a", ()), ("b", ()), ("c", ())))), 1)
        self.assertEqual(levels_of(TREE), 4)
        for depth in range(46):
            self.assertEqual(levels_of(nested(depth)), depth)
            self.assertEqual(levels_of(nested(depth, ("x",))), depth)

    def test_deepest_anywhere(self):
        deep = ("a", (("b", (("c", ()),)),))
        for parts in ((deep, ("a", ()), "x"), (("a", ()), deep, ("a", (("b", ()),))), ("x", ("a", ()), deep)):
            self.assertEqual(levels_of(("", parts)), 3)

    def test_large(self):
        tree = wide_and_deep()
        places = places_in(tree)
        self.assertEqual(len(places), 1 + 40 * 201 + 1)
        self.assertEqual(places, sorted(set(places)))
        self.assertEqual(levels_of(tree), 40)
        self.assertEqual(text_of(tree), "x" * 100 * 40 + "t")
        self.assertEqual(part_at(tree, places[-1]), "t")
        self.assertEqual(names_above(tree, places[-1]), ("a",) * 40)


class OpenOnes(unittest.TestCase):
    def test_root_and_its_parts(self):
        for place in ((), (0,), (1,), (2,), (3,), (4,)):
            self.assertEqual(names_above(TREE, place), (), place)

    def test_deeper(self):
        self.assertEqual(names_above(TREE, (2, 0)), ("list",))
        self.assertEqual(names_above(TREE, (2, 1)), ("list",))
        self.assertEqual(names_above(TREE, (2, 0, 1)), ("list", "item"))
        self.assertEqual(names_above(TREE, (2, 0, 1, 1)), ("list", "item", "b"))

    def test_text(self):
        self.assertEqual(names_above(TREE, (2, 0, 0)), ("list", "item"))
        self.assertEqual(names_above(TREE, (2, 0, 1, 0)), ("list", "item", "b"))

    def test_outermost_first(self):
        tree = ("", (("a", (("b", (("a", (("c", ("x",)),)),)),)),))
        self.assertEqual(names_above(tree, (0, 0, 0, 0, 0)), ("a", "b", "a", "c"))

    def test_tree_that_bears_the_name_of_the_root(self):
        self.assertEqual(names_above(("", (("", (("a", ("x",)),)),)), (0, 0, 0)), ("", "a"))

    def test_leads_nowhere(self):
        for place in NOWHERE:
            with self.assertRaises(NoPlace, msg=place):
                names_above(TREE, place)


class NearOnes(unittest.TestCase):
    def near(self, names, near):
        self.assertEqual(near_of(BOOK, names), near, names)

    def test_no_wall(self):
        self.near((), ())
        self.near(("p",), ("p",))
        self.near(("p", "a", "item", "br", "p"), ("p", "a", "item", "br", "p"))

    def test_one_wall(self):
        for wall in ("side", "list", "deck"):
            self.near((wall, "p"), ("p",))
            self.near(("p", wall, "a"), ("a",))
            self.near(("p", "a", wall, "item", "a", "p"), ("item", "a", "p"))

    def test_several(self):
        self.near(("side", "p", "side", "a"), ("a",))
        self.near(("side", "side", "a", "p"), ("a", "p"))
        self.near(("deck", "list", "item", "p"), ("item", "p"))
        self.near(("list", "item", "side", "p", "a", "p"), ("p", "a", "p"))

    def test_wall_as_the_last_one(self):
        for wall in ("side", "list", "deck"):
            self.near((wall,), ())
            self.near(("p", wall), ())
            self.near(("p", wall, "a", wall), ())

    def test_names_that_the_book_has_not(self):
        self.near(("zzz",), ("zzz",))
        self.near(("p", "zzz", "", "A"), ("p", "zzz", "", "A"))
        self.near(("zzz", "side", "zzz", "p"), ("zzz", "p"))
        self.assertEqual(near_of((), ("side", "list", "p")), ("side", "list", "p"))

    def test_many(self):
        self.near(("p",) * 45, ("p",) * 45)
        self.near(("side",) + ("p",) * 44, ("p",) * 44)


if __name__ == "__main__":
    unittest.main()
