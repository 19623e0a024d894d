import random
import unittest

from second import BOOK, BOOKS, some_book, some_tree
from tagmend.writing import mended, written


def second_writing(book, part):
    # By recursion, and each sign for itself.
    if isinstance(part, str):
        return "".join({"<": "&l;", "&": "&a;"}.get(sign, sign) for sign in part)
    name, parts = part
    inner = "".join(second_writing(book, part) for part in parts)
    if (name, "bare") in [row[:2] for row in book]:
        return "<%s>" % name
    return inner if name == "" else "<%s>%s</%s>" % (name, inner, name)


class Written(unittest.TestCase):
    def writes(self, text, *parts):
        self.assertEqual(written(BOOK, ("", parts)), text)

    def test_root_alone(self):
        self.writes("")
        self.assertEqual(written((), ("", ())), "")
        self.assertEqual(written((), ("", ("x<",))), "x&l;")

    def test_texts(self):
        self.writes("x", "x")
        self.writes("&l;p>&a;&a;l;", "<p>&&l;")
        self.writes(" \n", " \n")
        self.writes("a &l; b &a; c > d", "a < b & c > d")

    def test_trees(self):
        self.writes("<p></p>", ("p", ()))
        self.writes("x<p>y<c>&a;</c></p>z", "x", ("p", ("y", ("c", ("&",)))), "z")
        self.writes("<list><item>x</item><item></item></list>", ("list", (("item", ("x",)), ("item", ()))))

    def test_bare(self):
        self.writes("<br>", ("br", ()))
        self.writes("x<br>y<p><br><br></p>", "x", ("br", ()), "y", ("p", (("br", ()), ("br", ()))))

    def test_faulty_trees(self):
        self.writes("xy", "x", "", "y")
        self.writes("<h><p><p></p></p></h>", ("h", (("p", (("p", ()),)),)))
        self.writes("<item>x</item><list>y<side></side></list>", ("item", ("x",)), ("list", ("y", ("side", ()))))
        self.writes("<a><a></a></a>", ("a", (("a", ()),)))

    def test_bare_with_parts_is_its_opening_alone(self):
        self.writes("<br>", ("br", ("x",)))
        self.writes("<p><br>z</p>", ("p", (("br", ("x", ("p", ("y",)))), "z")))

    def test_levels(self):
        for many in (1, 20, 40, 50):
            part = "x"
            for number in range(many):
                part = ("side", (part, ("br", ())))
            self.writes("<side>" * many + "x" + "<br></side>" * many, part)

    def test_many_parts(self):
        self.writes("<p>&l;</p>x" * 3000, *(("p", ("<",)), "x") * 3000)

    def test_many_trees(self):
        source = random.Random(22)
        for number in range(1000):
            book = source.choice(BOOKS) if number % 2 else some_book(source)
            tree = some_tree(source, book, 5)
            self.assertEqual(written(book, tree), second_writing(book, tree), (book, tree))
            self.assertEqual(written(book, tree), written(book, tree))


class Mended(unittest.TestCase):
    def test_none(self):
        for text in ("", "x", "<p>&"):
            self.assertEqual(mended(text, []), text)

    def test_put_in(self):
        self.assertEqual(mended("xy", [(1, 1, "<p>", "frame")]), "x<p>y")
        self.assertEqual(mended("xy", [(0, 0, "<p>", "frame")]), "<p>xy")
        self.assertEqual(mended("xy", [(2, 2, "</p>", "end")]), "xy</p>")
        self.assertEqual(mended("", [(0, 0, "</p>", "end")]), "</p>")

    def test_dropped(self):
        self.assertEqual(mended("x<p>y", [(1, 4, "", "barred")]), "xy")
        self.assertEqual(mended("<p>y", [(0, 3, "", "barred")]), "y")
        self.assertEqual(mended("y</p>", [(1, 5, "", "stray")]), "y")
        self.assertEqual(mended("</p>", [(0, 4, "", "stray")]), "")
        self.assertEqual(mended("</p></p>x</p>", [(0, 4, "", "stray"), (4, 8, "", "stray"), (9, 13, "", "stray")]), "x")

    def test_in_their_stead(self):
        self.assertEqual(mended("a&b<", [(1, 2, "&a;", "sign"), (3, 4, "&l;", "sign")]), "a&a;b&l;")

    def test_several_at_one_place(self):
        mends = [(1, 1, "</h>", "shut"), (1, 1, "</p>", "shut"), (1, 1, "<list>", "frame")]
        self.assertEqual(mended("x<item>", mends), "x</h></p><list><item>")
        mends = [(0, 0, "<row>", "host"), (0, 0, "<cell>", "host"), (0, 1, "&a;", "sign"), (1, 1, "</cell>", "end"),
                 (1, 1, "</row>", "end")]
        self.assertEqual(mended("&", mends), "<row><cell>&a;</cell></row>")

    def test_what_is_put_in_behind_what_is_dropped(self):
        self.assertEqual(mended("x</p>y", [(1, 5, "", "stray"), (5, 5, "<c>", "anew")]), "x<c>y")
        self.assertEqual(mended("x</p>", [(1, 5, "", "stray"), (5, 5, "</c>", "end")]), "x</c>")

    def test_what_is_handed_in_stays(self):
        mends = [(0, 1, "&a;", "sign"), (1, 1, "</p>", "end")]
        self.assertEqual([mended("&", mends), mended("&", mends)], ["&a;</p>"] * 2)
        self.assertEqual(mends, [(0, 1, "&a;", "sign"), (1, 1, "</p>", "end")])

    def test_large(self):
        text = "&x" * 2500
        self.assertEqual(mended(text, [(number, number + 1, "&a;", "sign") for number in range(0, 5000, 2)]), "&a;x" * 2500)


if __name__ == "__main__":
    unittest.main()
