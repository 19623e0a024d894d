import random
import unittest

from second import BOOK, BOOKS, some_book, some_parts, some_tree, without_faults
from tagmend.bits import lifted, put_around, set_in, taken_out
from tagmend.booktexts import read_book
from tagmend.errors import NoFit, NoPlace
from tagmend.faults import fault_of
from tagmend.trees import places_in

TREE = ("", ("x", ("p", ("y", ("br", ()), "z")), ("list", (("item", ("u",)), ("item", ()))), "v"))
NOWHERE = ((4,), (5,), (-1,), (0, 0), (0, 0, 0), (1, 3), (1, -1), (1, 0, 0), (1, 1, 0), (2, 2), (2, 0, 1), (2, 0, 0, 0), (4, 0),
           (-1, 0), (2, -1, 0), (10 ** 30,), (1, 10 ** 5000), (-10 ** 5000,), (10 ** 5000, 0))


def with_part(number, *parts):
    # The root of TREE with these in the stead of one of its parts.
    return ("", TREE[1][:number] + parts + TREE[1][number + 1:])


def answer(book, ask, *asked):
    try:
        return ask(book, *asked)
    except NoFit as error:
        return ("NoFit", error.rule, error.place)
    except NoPlace:
        return "NoPlace"


class BitCase(unittest.TestCase):
    def setUp(self):
        self.assertIsNone(fault_of(BOOK, TREE))

    def unfit(self, rule, place, ask, *asked):
        self.assertEqual(answer(BOOK, ask, *asked), ("NoFit", rule, place))

    def nowhere(self, ask, *asked):
        with self.assertRaises(NoPlace, msg=asked[1:]):
            ask(BOOK, *asked)


class SetIn(BitCase):
    def test_first_middle_last_and_behind(self):
        bit = ("c", ("w",))
        for number in range(5):
            tree = ("", TREE[1][:number] + (bit,) + TREE[1][number:])
            self.assertEqual(set_in(BOOK, TREE, (number,), bit), tree)

    def test_within(self):
        tree = with_part(1, ("p", (("c", ()), "y", ("br", ()), "z")))
        self.assertEqual(set_in(BOOK, TREE, (1, 0), ("c", ())), tree)
        tree = with_part(1, ("p", ("y", ("br", ()), "z", ("c", ()))))
        self.assertEqual(set_in(BOOK, TREE, (1, 3), ("c", ())), tree)
        tree = with_part(2, ("list", (("item", ("u",)), ("item", ("w",)))))
        self.assertEqual(set_in(BOOK, TREE, (2, 1, 0), "w"), tree)
        tree = with_part(2, ("list", (("item", ("u",)), ("item", (("p", ("w",)),)), ("item", ()))))
        self.assertEqual(set_in(BOOK, TREE, (2, 1), ("item", (("p", ("w",)),))), tree)

    def test_into_what_has_no_parts(self):
        self.assertEqual(set_in(BOOK, ("", ()), (0,), "x"), ("", ("x",)))
        self.assertEqual(set_in((), ("", ()), (0,), "<p>"), ("", ("<p>",)))

    def test_text_between_trees(self):
        tree = ("", TREE[1][:2] + ("w",) + TREE[1][2:])
        self.assertEqual(set_in(BOOK, TREE, (2,), "w"), tree)

    def test_nowhere(self):
        self.nowhere(set_in, TREE, (), "w")
        self.nowhere(set_in, ("", ()), (), "w")
        for place in NOWHERE:
            if place not in ((4,), (1, 3), (2, 2), (2, 0, 1), (1, 1, 0)):
                self.nowhere(set_in, TREE, place, ("c", ()))
        for place in ((1, 4), (2, 3), (2, 1, 1), (2, 1, -1), (5,)):
            self.nowhere(set_in, TREE, place, ("c", ()))

    def test_nowhere_goes_ahead_of_what_does_not_fit(self):
        for bit in ("", ("zzz", ()), ("br", ("x",))):
            self.nowhere(set_in, TREE, (), bit)
            self.nowhere(set_in, TREE, (5,), bit)
            self.nowhere(set_in, TREE, (0, 0), bit)
            self.nowhere(set_in, TREE, (1, -1), bit)

    def test_each_fault(self):
        self.unfit("strange", (1,), set_in, TREE, (1,), ("zzz", ()))
        self.unfit("strange", (1,), set_in, TREE, (1,), ("", ()))
        self.unfit("full", (1,), set_in, TREE, (1,), ("br", ("w",)))
        self.unfit("full", (1, 1), set_in, TREE, (1, 1, 0), ("c", ()))
        self.unfit("guest", (2, 0), set_in, TREE, (2, 0), ("p", ()))
        self.unfit("guest", (2, 1), set_in, TREE, (2, 1), "w")
        self.unfit("lost", (1, 3), set_in, TREE, (1, 3), ("item", ()))
        self.unfit("shut", (1, 2), set_in, TREE, (1, 2), ("p", ()))
        self.unfit("barred", (2, 1, 0), set_in, TREE, (2, 1, 0), ("c", ()))
        self.unfit("empty", (2,), set_in, TREE, (2,), "")
        self.unfit("beside", (1,), set_in, TREE, (0,), "w")
        self.unfit("beside", (1,), set_in, TREE, (1,), "w")
        self.unfit("empty", (1,), set_in, TREE, (1,), "")

    def test_deep(self):
        tree = ("", ())
        place = ()
        for number in range(20):
            place = place + (0,)
            tree = set_in(BOOK, tree, place, ("side", ()))
        self.unfit("deep", place + (0,), set_in, tree, place + (0,), ("side", ()))
        self.assertEqual(fault_of(BOOK, set_in(BOOK, tree, place + (0,), "x")), None)
        self.unfit("deep", (0,) * 21, set_in, tree, (0,), ("side", tree[1]))

    def test_fault_within_the_bit(self):
        self.unfit("beside", (2, 0, 1), set_in, TREE, (2,), ("h", (("c", ("x", "y")), ("zzz", ()))))
        self.unfit("guest", (4, 0), set_in, TREE, (4,), ("list", ("x",)))


class TakenOut(BitCase):
    def test_first_middle_last(self):
        self.assertEqual(taken_out(BOOK, TREE, (0,)), ("", TREE[1][1:]))
        self.assertEqual(taken_out(BOOK, TREE, (2,)), ("", TREE[1][:2] + TREE[1][3:]))
        self.assertEqual(taken_out(BOOK, TREE, (3,)), ("", TREE[1][:3]))

    def test_within(self):
        self.assertEqual(taken_out(BOOK, TREE, (1, 0)), with_part(1, ("p", (("br", ()), "z"))))
        self.assertEqual(taken_out(BOOK, TREE, (2, 0)), with_part(2, ("list", (("item", ()),))))
        self.assertEqual(taken_out(BOOK, TREE, (2, 0, 0)), with_part(2, ("list", (("item", ()), ("item", ())))))

    def test_texts_become_one(self):
        self.assertEqual(taken_out(BOOK, TREE, (1, 1)), with_part(1, ("p", ("yz",))))
        self.assertEqual(taken_out(BOOK, ("", ("x", ("p", ("y",)), "z")), (1,)), ("", ("xz",)))

    def test_the_only_part(self):
        self.assertEqual(taken_out(BOOK, ("", ("x",)), (0,)), ("", ()))

    def test_nowhere(self):
        for place in NOWHERE + ((), (1, 4)):
            self.nowhere(taken_out, TREE, place)
        self.nowhere(taken_out, ("", ()), (0,))
        self.nowhere(taken_out, ("", ()), ())

    def test_what_is_taken_out_never_brings_a_fault(self):
        for place in places_in(TREE)[1:]:
            self.assertIsNone(fault_of(BOOK, taken_out(BOOK, TREE, place)))


class PutAround(BitCase):
    def test_first_middle_last(self):
        for start, stop in ((0, 1), (0, 4), (0, 3), (1, 2), (1, 3), (2, 4), (3, 4)):
            tree = ("", TREE[1][:start] + (("side", TREE[1][start:stop]),) + TREE[1][stop:])
            self.assertEqual(put_around(BOOK, TREE, (start,), stop, "side"), tree)

    def test_none_between(self):
        for number in range(5):
            tree = ("", TREE[1][:number] + (("c", ()),) + TREE[1][number:])
            self.assertEqual(put_around(BOOK, TREE, (number,), number, "c"), tree)
        self.assertEqual(put_around(BOOK, ("", ()), (0,), 0, "br"), ("", (("br", ()),)))
        tree = with_part(2, ("list", (("item", ("u",)), ("item", ()), ("item", ()))))
        self.assertEqual(put_around(BOOK, TREE, (2, 2), 2, "item"), tree)

    def test_within(self):
        tree = with_part(1, ("p", ("y", ("c", (("br", ()), "z")))))
        self.assertEqual(put_around(BOOK, TREE, (1, 1), 3, "c"), tree)
        tree = with_part(2, ("list", (("item", (("b", ("u",)),)), ("item", ()))))
        self.assertEqual(put_around(BOOK, TREE, (2, 0, 0), 1, "b"), tree)

    def test_nowhere(self):
        for place in NOWHERE:
            for stop in (0, 1, 3, 10 ** 5000):
                if place not in ((4,), (1, 3), (2, 2), (2, 0, 1), (1, 1, 0)):
                    self.nowhere(put_around, TREE, place, stop, "c")
        for stop in (0, 1, 5):
            self.nowhere(put_around, TREE, (), stop, "c")

    def test_stop(self):
        for place, stop in (((0,), 5), ((0,), -1), ((1,), 0), ((4,), 5), ((4,), 3), ((2,), 1), ((1, 0), 4), ((1, 3), 2), ((1, 1), 0),
                            ((1, 1), -3), ((0,), 10 ** 5000), ((2, 1, 0), 1), ((1, 1, 0), 1)):
            self.nowhere(put_around, TREE, place, stop, "side")

    def test_nowhere_goes_ahead_of_what_does_not_fit(self):
        self.nowhere(put_around, TREE, (), 0, "zzz")
        self.nowhere(put_around, TREE, (1,), 0, "zzz")
        self.nowhere(put_around, TREE, (0,), 5, "br")
        self.nowhere(put_around, TREE, (0, 0), 0, "zzz")
        self.nowhere(put_around, TREE, (2, 0), 3, "p")

    def test_each_fault(self):
        self.unfit("strange", (0,), put_around, TREE, (0,), 1, "zzz")
        self.unfit("strange", (0,), put_around, TREE, (0,), 1, "")
        self.unfit("full", (0,), put_around, TREE, (0,), 1, "br")
        self.unfit("full", (1, 1), put_around, TREE, (1, 1, 0), 0, "c")
        self.unfit("guest", (0, 0), put_around, TREE, (0,), 1, "list")
        self.unfit("guest", (2, 0), put_around, TREE, (2, 0), 1, "p")
        self.unfit("lost", (2, 0, 0), put_around, TREE, (2, 0), 1, "item")
        self.unfit("lost", (0,), put_around, TREE, (0,), 0, "item")
        self.unfit("shut", (1, 0), put_around, TREE, (1,), 2, "h")
        self.unfit("shut", (1, 0), put_around, TREE, (1, 0), 2, "p")
        self.unfit("barred", (1, 0), put_around, TREE, (1,), 2, "a")

    def test_deep(self):
        part = ("side", ())
        for number in range(19):
            part = ("side", (part,))
        tree = ("", (part,))
        self.assertIsNone(fault_of(BOOK, tree))
        for place in places_in(tree)[1:]:
            self.unfit("deep", (0,) * 21, put_around, tree, place, 1, "side")
        self.unfit("deep", (0,) * 21, put_around, tree, (0,) * 21, 0, "side")


class Lifted(BitCase):
    def test_first_middle_last(self):
        tree = ("", (("c", ("x", ("br", ()))), ("side", (("br", ()), "y")), ("c", (("br", ()), ("br", ())))))
        self.assertEqual(lifted(BOOK, tree, (0,)), ("", ("x", ("br", ())) + tree[1][1:]))
        self.assertEqual(lifted(BOOK, tree, (1,)), ("", tree[1][:1] + (("br", ()), "y") + tree[1][2:]))
        self.assertEqual(lifted(BOOK, tree, (2,)), ("", tree[1][:2] + (("br", ()), ("br", ()))))

    def test_texts_become_one_ahead(self):
        self.assertEqual(lifted(BOOK, ("", ("x", ("c", ("y", ("br", ()))))), (1,)), ("", ("xy", ("br", ()))))

    def test_texts_become_one_behind(self):
        self.assertEqual(lifted(BOOK, ("", (("c", (("br", ()), "y")), "z")), (0,)), ("", (("br", ()), "yz")))

    def test_texts_become_one_on_both_sides(self):
        self.assertEqual(lifted(BOOK, TREE, (1,)), ("", ("xy", ("br", ()), "z") + TREE[1][2:]))
        tree = ("", ("x", ("c", ("y", ("br", ()), "z")), "v"))
        self.assertEqual(lifted(BOOK, tree, (1,)), ("", ("xy", ("br", ()), "zv")))
        self.assertEqual(lifted(BOOK, ("", ("x", ("c", ("y",)), "z")), (1,)), ("", ("xyz",)))

    def test_without_parts(self):
        self.assertEqual(lifted(BOOK, ("", ("x", ("c", ()), "z")), (1,)), ("", ("xz",)))
        self.assertEqual(lifted(BOOK, ("", (("c", ()),)), (0,)), ("", ()))
        self.assertEqual(lifted(BOOK, TREE, (1, 1)), with_part(1, ("p", ("yz",))))
        self.assertEqual(lifted(BOOK, TREE, (2, 1)), with_part(2, ("list", (("item", ("u",)),))))

    def test_within(self):
        tree = ("", (("side", ("x", ("p", (("c", ("y",)), "z")))), "v"))
        self.assertEqual(lifted(BOOK, tree, (0, 1)), ("", (("side", ("x", ("c", ("y",)), "z")), "v")))
        self.assertEqual(lifted(BOOK, tree, (0, 1, 0)), ("", (("side", ("x", ("p", ("yz",)))), "v")))

    def test_nowhere(self):
        for place in NOWHERE + ((), (1, 4)):
            self.nowhere(lifted, TREE, place)
        self.nowhere(lifted, ("", ()), ())
        self.nowhere(lifted, ("", ()), (0,))

    def test_text(self):
        for place in ((0,), (3,), (1, 0), (1, 2), (2, 0, 0)):
            self.nowhere(lifted, TREE, place)

    def test_each_fault(self):
        self.unfit("guest", (2, 0), lifted, TREE, (2, 0))
        self.unfit("lost", (2,), lifted, TREE, (2,))
        tree = ("", (("deck", (("row", (("cell", ("x",)),)),)),))
        self.unfit("lost", (0,), lifted, tree, (0,))
        self.unfit("guest", (0, 0), lifted, tree, (0, 0))
        self.unfit("guest", (0, 0, 0), lifted, tree, (0, 0, 0))

    def test_what_a_wall_kept_apart(self):
        book = read_book("p plain shuts p\na anew bars a\nr room")
        for name, rule in (("p", "shut"), ("a", "barred")):
            tree = ("", ("x", (name, ("y", ("r", ("z", (name, ())))))))
            self.assertIsNone(fault_of(book, tree))
            self.assertEqual(answer(book, lifted, tree, (1, 1)), ("NoFit", rule, (1, 1)))
            self.assertEqual(lifted(book, tree, (1,)), ("", ("xy", ("r", ("z", (name, ()))))))
            self.assertEqual(lifted(book, tree, (1, 1, 1)), ("", ("x", (name, ("y", ("r", ("z",)))))))


class ThereAndBack(BitCase):
    def test_large_trees(self):
        part = ("side", (("h", ("x",)), ("br", ()), "y") * 2000)
        for number in range(17):
            part = ("side", (part, "x"))
        tree = ("", (part,))
        place = (0,) * 18 + (3000,)
        self.assertEqual(taken_out(BOOK, set_in(BOOK, tree, place, ("c", ())), place), tree)
        self.assertEqual(lifted(BOOK, put_around(BOOK, tree, place, 4500, "c"), place), tree)
        self.unfit("beside", (0,) * 18 + (6000,), set_in, tree, (0,) * 18 + (6000,), "z")

    def test_what_is_handed_in_stays(self):
        kept = ("", ("x", ("p", ("y", ("br", ()), "z")), ("list", (("item", ("u",)), ("item", ()))), "v"))
        for place in places_in(TREE)[1:]:
            for ask, more in ((set_in, ("w",)), (taken_out, ()), (put_around, (place[-1] + 1, "c")), (lifted, ())):
                first = answer(BOOK, ask, TREE, place, *more)
                self.assertEqual(TREE, kept)
                self.assertEqual(answer(BOOK, ask, TREE, place, *more), first)


def second_answer(book, ask, tree, place, *more):
    # On lists, in a copy: the parts are changed where they stand.
    above = root = as_lists(tree)
    for number in place[:-1]:
        if isinstance(above, str) or not 0 <= number < len(above[1]):
            return "NoPlace"
        above = above[1][number]
    if place == () or isinstance(above, str):
        return "NoPlace"
    parts = above[1]
    number = place[-1]
    most = len(parts) + (ask in (set_in, put_around))
    if not 0 <= number < most or ask is put_around and more[0] not in range(number, len(parts) + 1):
        return "NoPlace"
    if ask is lifted and isinstance(parts[number], str):
        return "NoPlace"
    if ask is set_in:
        parts.insert(number, as_lists(more[0]))
    elif ask is taken_out:
        del parts[number]
    elif ask is put_around:
        parts[number:more[0]] = [[more[1], parts[number:more[0]]]]
    else:
        parts[number:number + 1] = parts[number][1]
    if ask in (taken_out, lifted):
        number = 1
        while number < len(parts):
            if isinstance(parts[number], str) and isinstance(parts[number - 1], str):
                parts[number - 1:number + 1] = [parts[number - 1] + parts[number]]
            else:
                number += 1
    told = as_tuples(root)
    fault = fault_of(book, told)
    return told if fault is None else ("NoFit",) + fault


def as_lists(part):
    return part if isinstance(part, str) else [part[0], [as_lists(inner) for inner in part[1]]]


def as_tuples(part):
    return part if isinstance(part, str) else (part[0], tuple(as_tuples(inner) for inner in part[1]))


class ManyBits(unittest.TestCase):
    def some_place(self, source, tree):
        place = source.choice(places_in(tree))
        return place + (source.randrange(-1, 4),) if source.randrange(2) else place

    def some_bit(self, source, book):
        if source.randrange(4) == 0:
            return source.choice(("x", "<", " ", ""))
        names = [row[0] for row in book] + ["zzz"] * (len(book) == 0)
        return (source.choice(names), some_parts(source, names, source.choice((0, 0, 1, 2))))

    def test_asked_twice(self):
        source = random.Random(25)
        seen = set()
        for number in range(300):
            book = source.choice(BOOKS) if number % 2 else some_book(source)
            tree = without_faults(book, some_tree(source, book, 5))
            for turn in range(40):
                place = self.some_place(source, tree)
                name = source.choice([row[0] for row in book] + ["zzz"])
                stop = (place[-1] if place else 0) + source.randrange(-1, 4)
                ask, more = source.choice(((set_in, (self.some_bit(source, book),)), (taken_out, ()),
                                           (put_around, (stop, name)), (lifted, ())))
                told = answer(book, ask, tree, place, *more)
                self.assertEqual(told, second_answer(book, ask, tree, place, *more), (book, ask, tree, place, more))
                seen.add((ask.__name__, told[1] if told[0] == "NoFit" else told if told == "NoPlace" else "tree"))
                if told[0] == "" and ask in (set_in, put_around):
                    back = answer(book, taken_out if ask is set_in else lifted, told, place)
                    self.assertEqual(back, tree, (book, ask, tree, place, more))
        for rule in ("strange", "full", "guest", "lost", "shut", "barred"):
            self.assertIn(("set_in", rule), seen)
            self.assertIn(("put_around", rule), seen)
        for rule in ("guest", "lost", "shut", "barred"):
            self.assertIn(("lifted", rule), seen)
        self.assertEqual({rule for name, rule in seen if name == "taken_out"}, {"tree", "NoPlace"})


if __name__ == "__main__":
    unittest.main()
