import random
import unittest

from tagmend.booktexts import read_book
from tagmend.errors import NoPlace
from tagmend.faults import fault_at, fault_of
from tagmend.trees import part_at, places_in

BOOK = read_book("\n".join((
    "p plain shuts h p bars a",
    "h plain",
    "a anew bars a",
    "br bare shuts h bars a",
    "side room shuts p bars h",
    "list frame item shuts p",
    "item plain bars h",
    "deck frame row bars a",
    "row frame cell bars h",
    "cell plain",
)))
ORDER = ("strange", "full", "deep", "guest", "lost", "shut", "barred", "empty", "beside")


def within(names, part):
    # A root in which the part lies within trees of these names, the outermost first.
    for name in reversed(names):
        part = (name, (part,))
    return ("", (part,))


def place_within(names):
    return (0,) * (len(names) + 1)


class FaultCase(unittest.TestCase):
    def at(self, rule, names, part):
        self.assertEqual(fault_at(BOOK, within(names, part), place_within(names)), rule, (names, part))


class Places(FaultCase):
    TREE = ("", ("x", ("list", (("item", ("y",)),)), ("p", ())))

    def test_leads_nowhere(self):
        for place in ((3,), (-1,), (0, 0), (0, 0, 0), (1, 1), (1, -1), (1, 0, 1), (1, 0, 0, 0), (2, 0), (3, 0), (-1, 0),
                      (10 ** 5000,), (1, -10 ** 5000), (10 ** 5000, 0)):
            with self.assertRaises(NoPlace, msg=place):
                fault_at(BOOK, self.TREE, place)

    def test_no_fault(self):
        for place in places_in(self.TREE)[1:]:
            self.assertIsNone(fault_at(BOOK, self.TREE, place), place)

    def test_book_without_rows(self):
        tree = ("", ("x", ("p", ("y", "")), "", "z"))
        rules = [fault_at((), tree, place) for place in places_in(tree)[1:]]
        self.assertEqual(rules, [None, "strange", None, "empty", "empty", "beside"])


class Strange(FaultCase):
    def test_name_that_the_book_has_not(self):
        for name in ("zzz", "", "P", "shuts", "plain", "abcdefghij", "items"):
            self.at("strange", (), (name, ()))
            self.at("strange", ("h", "side"), (name, ("x",)))

    def test_each_name_of_the_book_is_known(self):
        for name in ("p", "h", "a", "br", "side", "list", "deck"):
            self.at(None, (), (name, ()))

    def test_ahead_of_deep(self):
        self.at("strange", ("h",) * 20, ("zzz", ()))

    def test_ahead_of_guest(self):
        self.at("strange", ("list",), ("zzz", ()))
        self.at("strange", ("list",), ("", ()))

    def test_with_parts(self):
        self.at("strange", (), ("zzz", ("x", "", ("br", ("y",)))))


class Full(FaultCase):
    def test_bare(self):
        self.at(None, (), ("br", ()))
        self.at("full", (), ("br", ("x",)))
        self.at("full", (), ("br", ("",)))
        self.at("full", (), ("br", (("br", ()),)))
        self.at("full", ("a", "side"), ("br", ("x", "y")))

    def test_others_may_have_parts(self):
        for name in ("p", "h", "a", "side", "list", "deck"):
            self.at(None, (), (name, ("x",)))

    def test_what_lies_in_it(self):
        self.at(None, ("br",), "x")
        self.at(None, ("br",), ("h", ()))
        self.at("lost", ("br",), ("item", ()))

    def test_ahead_of_deep(self):
        self.at("full", ("side",) * 20, ("br", ("x",)))

    def test_ahead_of_guest(self):
        self.at("full", ("list",), ("br", ("x",)))

    def test_ahead_of_shut(self):
        self.at("full", ("h",), ("br", ("x",)))

    def test_ahead_of_barred(self):
        self.at("full", ("a",), ("br", ("x",)))


class Deep(FaultCase):
    def test_nineteen_and_twenty(self):
        for name in ("p", "a", "br", "side", "list"):
            self.at(None, ("side",) * 18, (name, ()))
            self.at(None, ("side",) * 19, (name, ()))
            self.at("deep", ("side",) * 20, (name, ()))
            self.at("deep", ("side",) * 21, (name, ()))
            self.at("deep", ("side",) * 45, (name, ()))

    def test_all_that_are_open_count(self):
        # walls, what is within them and what is strange alike
        self.at(None, ("h", "zzz") + ("side",) * 17, ("a", ()))
        self.at("deep", ("h", "zzz") + ("side",) * 18, ("a", ()))

    def test_host(self):
        self.at(None, ("side",) * 18 + ("list",), ("item", ()))
        self.at("deep", ("side",) * 19 + ("list",), ("item", ()))

    def test_text_is_never_too_deep(self):
        for many in (19, 20, 21, 44):
            self.at(None, ("side",) * many, "x")
        self.at("guest", ("side",) * 20 + ("list",), "x")
        self.at("empty", ("side",) * 20, "")

    def test_ahead_of_guest(self):
        self.at("deep", ("side",) * 19 + ("list",), ("h", ()))

    def test_ahead_of_lost(self):
        self.at("deep", ("side",) * 20, ("item", ()))

    def test_ahead_of_shut(self):
        self.at("deep", ("side",) * 19 + ("h",), ("p", ()))

    def test_ahead_of_barred(self):
        self.at("deep", ("side",) * 19 + ("a",), ("a", ()))


class Guest(FaultCase):
    def test_trees(self):
        for name in ("p", "h", "a", "br", "side", "list", "deck"):
            self.at("guest", ("list",), (name, ()))
            self.at("guest", ("deck", "row"), (name, ()))
            self.at("guest", ("deck",), (name, ()))

    def test_texts(self):
        for text in ("x", " ", "\n"):
            self.at("guest", ("list",), text)
            self.at("guest", ("deck",), text)
            self.at("guest", ("deck", "row"), text)
            self.at("guest", ("side", "list"), text)

    def test_text_that_reads_like_the_host(self):
        self.at("guest", ("list",), "item")

    def test_host(self):
        self.at(None, ("list",), ("item", ()))
        self.at(None, ("deck",), ("row", ()))
        self.at(None, ("deck", "row"), ("cell", ()))

    def test_not_straight_in_a_frame(self):
        for part in ("x", ("h", ()), ("a", ()), ("side", ())):
            self.at(None, ("list", "item"), part)
            self.at(None, ("deck", "row", "cell"), part)

    def test_ahead_of_lost(self):
        self.at("guest", ("deck",), ("item", ()))
        self.at("guest", ("list",), ("cell", ()))
        self.at("guest", ("deck",), ("cell", ()))
        self.at("guest", ("deck", "row"), ("row", ()))
        self.at("guest", ("list",), ("row", ()))

    def test_ahead_of_empty(self):
        self.at("guest", ("list",), "")

    def test_ahead_of_beside(self):
        tree = ("", (("list", ("x", "y", "")),))
        self.assertEqual([fault_at(BOOK, tree, (0, number)) for number in range(3)], ["guest"] * 3)


class Lost(FaultCase):
    def test_host_elsewhere(self):
        for name in ("item", "row", "cell"):
            self.at("lost", (), (name, ()))
            self.at("lost", ("h",), (name, ()))
            self.at("lost", ("side",), (name, ()))
            self.at("lost", ("zzz",), (name, ()))
            self.at("lost", ("",), (name, ()))

    def test_host_in_its_frame_but_not_straight(self):
        self.at("lost", ("list", "item"), ("item", ()))
        self.at("lost", ("list", "zzz"), ("item", ()))
        self.at("lost", ("deck", "row", "cell"), ("cell", ()))
        self.at("lost", ("deck", "row", "cell"), ("row", ()))

    def test_frame_that_lies_in_a_wrong_place_is_a_frame(self):
        self.at(None, ("row",), ("cell", ()))
        self.at(None, ("h", "row"), ("cell", ()))

    def test_ahead_of_barred(self):
        self.at("lost", ("h",), ("item", ()))
        self.at("lost", ("h",), ("row", ()))


class Shut(FaultCase):
    def test_near_ones(self):
        self.at("shut", ("h",), ("p", ()))
        self.at("shut", ("p",), ("p", ()))
        self.at("shut", ("h",), ("br", ()))
        self.at("shut", ("p",), ("side", ()))
        self.at("shut", ("p",), ("list", ()))

    def test_the_outermost_near_one_too(self):
        self.at("shut", ("h", "a", "zzz"), ("p", ()))
        self.at("shut", ("side", "h", "a", "a"), ("p", ()))

    def test_others(self):
        self.at(None, (), ("p", ()))
        self.at(None, ("p",), ("h", ()))
        self.at(None, ("h",), ("list", ()))
        self.at(None, ("h",), ("h", ()))

    def test_over_a_wall(self):
        self.at(None, ("h", "side"), ("p", ()))
        self.at(None, ("p", "side"), ("p", ()))
        self.at(None, ("h", "list", "item"), ("p", ()))
        self.at(None, ("h", "side", "zzz"), ("p", ()))
        self.at(None, ("p", "side"), ("side", ()))

    def test_within_a_wall(self):
        self.at("shut", ("side", "h"), ("p", ()))
        self.at("shut", ("list", "item", "h"), ("p", ()))
        self.at("shut", ("side", "p"), ("side", ()))

    def test_over_what_is_strange(self):
        self.at("shut", ("h", "zzz"), ("p", ()))
        self.at("shut", ("h", ""), ("p", ()))

    def test_neither_itself_nor_its_parts_nor_its_neighbours(self):
        self.at(None, (), ("p", (("h", ()),)))
        tree = ("", (("h", ()), ("p", ()), ("h", ()), ("p", ())))
        self.assertIsNone(fault_of(BOOK, tree))

    def test_ahead_of_barred(self):
        self.at("shut", ("a", "h"), ("p", ()))
        self.at("shut", ("h", "a"), ("p", ()))
        self.at("shut", ("p", "h"), ("side", ()))
        self.at("shut", ("h", "a"), ("br", ()))


class Barred(FaultCase):
    def test_near_ones(self):
        self.at("barred", ("a",), ("p", ()))
        self.at("barred", ("a",), ("a", ()))
        self.at("barred", ("a",), ("br", ()))
        self.at("barred", ("h",), ("side", ()))
        self.at("barred", ("a",), ("deck", ()))

    def test_the_outermost_near_one_too(self):
        self.at("barred", ("a", "zzz", "h"), ("a", ()))
        self.at("barred", ("side", "a", "h", "h"), ("a", ()))

    def test_others(self):
        self.at(None, ("a",), ("h", ()))
        self.at(None, ("a",), ("side", ()))
        self.at(None, ("h",), ("deck", ()))

    def test_over_a_wall(self):
        self.at(None, ("a", "side"), ("p", ()))
        self.at(None, ("a", "side"), ("a", ()))
        self.at(None, ("h", "side"), ("side", ()))
        self.at(None, ("a", "deck", "row", "cell"), ("a", ()))

    def test_within_a_wall(self):
        self.at("barred", ("side", "a"), ("p", ()))
        self.at("barred", ("list", "item", "a"), ("a", ()))

    def test_host_straight_in_its_frame_has_no_near_ones(self):
        self.at(None, ("h", "list"), ("item", ()))
        self.at(None, ("h", "deck"), ("row", ()))

    def test_host_barred_by_nothing_ahead_of_its_frame(self):
        self.at(None, ("h", "list", "item"), ("a", ()))


class Texts(FaultCase):
    def test_empty(self):
        self.at("empty", (), "")
        self.at("empty", ("p",), "")
        self.at("empty", ("list", "item"), "")
        self.at(None, (), " ")
        self.at(None, (), "\n")
        self.at(None, (), "x")

    def test_beside(self):
        tree = ("", ("x", "y", ("h", ()), "z", ("h", ("x", "y", "z"))))
        rules = [fault_at(BOOK, tree, place) for place in places_in(tree)[1:]]
        self.assertEqual(rules, [None, "beside", None, None, None, None, "beside", "beside"])

    def test_empty_ahead_of_beside(self):
        tree = ("", ("x", "", "", "y"))
        rules = [fault_at(BOOK, tree, (number,)) for number in range(4)]
        self.assertEqual(rules, [None, "empty", "empty", "beside"])

    def test_beside_counts_parts_of_one_tree_alone(self):
        tree = ("", ("x", ("h", ("y",)), "z", ("h", ("x", ("h", ()), "y")), ("h", ("z",))))
        self.assertIsNone(fault_of(BOOK, tree))

    def test_ahead_of_a_text_is_no_fault(self):
        self.assertIsNone(fault_at(BOOK, ("", ("x", "")), (0,)))

    def test_near_ones_and_strange_ones_do_not_matter(self):
        for names in (("h",), ("p", "h"), ("a",), ("zzz",), ("",), ("br",), ("zzz",) * 25):
            self.at(None, names, "x")


class InSomethingStrange(FaultCase):
    def test_nothing_is_asked_of_it(self):
        self.at(None, ("zzz",), "x")
        self.at(None, ("zzz",), ("p", ("x",)))
        self.at(None, ("zzz",), ("br", ()))
        self.at(None, ("list", "zzz"), "x")

    def test_its_parts_have_their_own_faults(self):
        self.at("empty", ("zzz",), "")
        self.at("full", ("zzz",), ("br", ("x",)))
        self.at("strange", ("zzz",), ("yyy", ()))
        self.at("barred", ("a", "zzz"), ("a", ()))


class OfATree(FaultCase):
    def fault(self, fault, *parts):
        self.assertEqual(fault_of(BOOK, ("", parts)), fault)

    def test_none(self):
        self.fault(None)
        self.fault(None, "x")
        self.fault(None, "x", ("p", ("y", ("br", ()), "z")), ("list", (("item", ("x", ("a", ("y",)))), ("item", ()))))
        self.fault(None, ("deck", (("row", (("cell", ("x",)), ("cell", ()))), ("row", ()))))
        self.fault(None, ("side", (("p", (("a", ("x",)),)), ("side", (("h", ()),)))))

    def test_each_rule(self):
        self.fault(("strange", (0,)), ("zzz", ()))
        self.fault(("full", (1,)), "x", ("br", ("y",)))
        self.fault(("guest", (0, 1)), ("list", (("item", ()), "x")))
        self.fault(("lost", (1, 0)), ("h", ()), ("h", (("item", ()),)))
        self.fault(("shut", (0, 0)), ("h", (("p", ()),)))
        self.fault(("barred", (0, 0, 0)), ("a", (("h", (("a", ()),)),)))
        self.fault(("empty", (2,)), ("h", ()), ("h", ()), "")
        self.fault(("beside", (0, 1)), ("h", ("x", "y")))
        self.assertEqual(fault_of(BOOK, within(("side",) * 20, ("h", ()))), ("deep", (0,) * 21))
        self.assertIsNone(fault_of(BOOK, within(("side",) * 19, ("h", ("x",)))))

    def test_first_place_counts_not_first_rule(self):
        self.fault(("beside", (1,)), "x", "y", ("zzz", ()))
        self.fault(("empty", (0, 0)), ("h", ("",)), ("zzz", ()))
        self.fault(("barred", (0, 0)), ("a", (("a", ()),)), ("br", ("x",)))
        self.fault(("shut", (0, 0, 0)), ("side", (("h", (("p", ()),)), ("zzz", ()))), ("zzz", ()))

    def test_first_rule_counts_at_one_place(self):
        self.fault(("strange", (0, 0)), ("list", (("zzz", ()),)))
        self.fault(("guest", (0, 0)), ("list", ("", "")))

    def test_faults_within_one_another(self):
        self.fault(("strange", (0,)), ("zzz", ("", ("br", ("x",)))))
        self.fault(("full", (0,)), ("br", ("",)))
        self.fault(("lost", (0,)), ("item", (("zzz", ()),)))
        self.fault(("guest", (0, 0)), ("list", (("list", ("x",)),)))
        self.fault(("shut", (0, 0)), ("h", (("p", (("p", ()), "")),)))

    def test_what_is_deeper_but_ahead(self):
        self.fault(("empty", (0, 0, 0)), ("side", (("side", ("",)),)), "x", "y")

    def test_root_has_no_fault(self):
        self.assertIsNone(fault_of((), ("", ())))
        self.assertIsNone(fault_of((), ("", ("x",))))

    def test_large_trees(self):
        inner = (("h", ("x",)), ("br", ()), "y") * 2000
        names = ("side",) * 18
        self.assertIsNone(fault_of(BOOK, within(names, ("side", inner))))
        tree = within(names, ("side", inner + ("z",)))
        self.assertEqual(fault_of(BOOK, tree), ("beside", (0,) * 19 + (6000,)))
        tree = within(("side",) * 39, ("side", inner))
        self.assertEqual(fault_of(BOOK, tree), ("deep", (0,) * 21))
        self.assertEqual(fault_at(BOOK, tree, (0,) * 40 + (5999,)), None)

    def test_same_asked_again(self):
        tree = ("", ("x", ("list", ("y",))))
        self.assertEqual([fault_of(BOOK, tree), fault_of(BOOK, tree)], [("guest", (1, 0))] * 2)
        self.assertIs(type(fault_of(BOOK, tree)), tuple)


def rules_broken(tree, place):
    # All rules of point 14 that are broken at a place, each weighed for itself.
    rows = {row[0]: row for row in BOOK}
    hosts = {row[0]: row[2] for row in BOOK if row[1] == "frame"}
    part = part_at(tree, place)
    above = [part_at(tree, place[:length])[0] for length in range(1, len(place))]
    straight = above[-1] if above else None
    walls = [number for number, name in enumerate(above) if rows.get(name, ("", ""))[1] in ("room", "frame")]
    near = above[walls[-1] + 1:] if walls else above
    if isinstance(part, str):
        behind = place[-1] > 0 and isinstance(part_at(tree, place[:-1] + (place[-1] - 1,)), str)
        told = {"guest": straight in hosts, "empty": part == "", "beside": behind}
    else:
        name, parts = part
        shuts, bars = rows[name][3:] if name in rows else ((), ())
        told = {
            "strange": name not in rows,
            "full": name in rows and rows[name][1] == "bare" and parts != (),
            "deep": len(above) >= 20,
            "guest": straight in hosts and hosts[straight] != name,
            "lost": name in hosts.values() and hosts.get(straight) != name,
            "shut": set(near) & set(shuts) != set(),
            "barred": set(near) & set(bars) != set(),
        }
    return [rule for rule in ORDER if told.get(rule)]


class ManyTrees(unittest.TestCase):
    NAMES = ("p", "h", "a", "br", "side", "list", "item", "deck", "row", "cell", "zzz", "")

    def some_parts(self, source, level):
        parts = []
        for number in range(source.choice((0, 1, 1, 2, 3))):
            if level == 0 or source.randrange(4) == 0:
                parts.append(source.choice(("x", "y", "")))
            else:
                parts.append((source.choice(self.NAMES), self.some_parts(source, level - 1)))
        return tuple(parts)

    def test_weighed_twice(self):
        source = random.Random(14)
        seen = set()
        for number in range(1500):
            tree = ("", self.some_parts(source, 5))
            if number % 10 == 0:
                tree = within(("side", "h") * 8 + ("side",), ("h", tree[1]))
            first = None
            for place in places_in(tree)[1:]:
                rules = rules_broken(tree, place)
                seen.add(tuple(rules[:2]))
                self.assertEqual(fault_at(BOOK, tree, place), (rules + [None])[0], (tree, place))
                first = first or (rules and (rules[0], place)) or None
            self.assertEqual(fault_of(BOOK, tree), first, tree)
        self.assertEqual({rule for rules in seen for rule in rules}, set(ORDER))


if __name__ == "__main__":
    unittest.main()
