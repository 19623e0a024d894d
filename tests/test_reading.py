import unittest

from second import BOOK
from tagmend.booktexts import read_book
from tagmend.reading import read_text


def within(names, *parts):
    for name in reversed(names):
        parts = ((name, parts),)
    return ("", parts)


def ended(size, *names):
    # What is closed at the end, the last one first.
    return [(size, size, "</%s>" % name, "end") for name in names]


class ReadCase(unittest.TestCase):
    def read(self, text, parts, mends, book=BOOK):
        told = read_text(book, text)
        self.assertEqual(told, (("", parts), mends), text)
        self.assertEqual([told.__class__, told[0].__class__, told[1].__class__], [tuple, tuple, list])


class WithoutMends(ReadCase):
    def test_no_signs(self):
        self.read("", (), [])
        self.read("", (), [], ())

    def test_text_alone(self):
        for text in ("x", " ", "\n", "a > b; c", "/p>", "l;"):
            self.read(text, (text,), [])
            self.read(text, (text,), [], ())

    def test_as_its_tags_tell(self):
        self.read("x<p>y</p>z", ("x", ("p", ("y",)), "z"), [])
        self.read("<p></p><p><c><c></c></c></p>", (("p", ()), ("p", (("c", (("c", ()),)),))), [])
        self.read("<side><p>x</p><side></side></side>", (("side", (("p", ("x",)), ("side", ()))),), [])
        self.read("<list><item>x</item><item></item></list>", (("list", (("item", ("x",)), ("item", ()))),), [])
        self.read("<deck><row><cell></cell></row></deck>", (("deck", (("row", (("cell", ()),)),)),), [])

    def test_escapes(self):
        self.read("&l;p>&a;<p>&a;l;</p>&a;a;", ("<p>&", ("p", ("&l;",)), "&a;"), [])

    def test_bare(self):
        self.read("<br>x<br><p><br></p>", (("br", ()), "x", ("br", ()), ("p", (("br", ()),))), [])

    def test_blanks_elsewhere_than_in_a_frame(self):
        self.read(" <p>\n</p> \n<list><item> </item></list>\n",
                  (" ", ("p", ("\n",)), " \n", ("list", (("item", (" ",)),)), "\n"), [])
        self.read("<side> </side>", (("side", (" ",)),), [])

    def test_twenty_within_one_another(self):
        text = "<side>" * 20 + "x" + "</side>" * 20
        self.assertEqual(read_text(BOOK, text), (within(["side"] * 20, "x"), []))


class Strange(ReadCase):
    def test_openings(self):
        self.read("<zzz>", (), [(0, 5, "", "strange")])
        self.read("x<zzz>y", ("xy",), [(1, 6, "", "strange")])
        self.read("<p>x<item>", (("p", ("x",)),), [(4, 10, "", "strange")] + ended(10, "p"), (BOOK[0][:3] + ((), ()),))

    def test_words_that_no_book_has_as_names(self):
        self.read("<shuts><bars>", (), [(0, 7, "", "strange"), (7, 13, "", "strange")])

    def test_straight_in_a_frame_nothing_is_put(self):
        self.read("<list><zzz></list>", (("list", ()),), [(6, 11, "", "strange")])

    def test_where_twenty_are_open(self):
        self.assertEqual(read_text(BOOK, "<side>" * 20 + "<zzz>")[1][0], (120, 125, "", "strange"))

    def test_book_without_rows(self):
        self.read("<p>x</p>", ("x",), [(0, 3, "", "strange"), (4, 8, "", "stray")], ())

    def test_what_is_no_opening(self):
        self.read("<abcdefghi><P>", ("<abcdefghi><P>",), [(0, 1, "&l;", "sign"), (11, 12, "&l;", "sign")])


class Barred(ReadCase):
    def test_opening_is_dropped(self):
        self.read("<a>x<a>y</a>", (("a", ("xy",)),), [(4, 7, "", "barred")])

    def test_nothing_is_shut_for_it(self):
        self.read("<a><h>x<p>y", (("a", (("h", ("xy",)),)),), [(7, 10, "", "barred")] + ended(11, "h", "a"))

    def test_what_is_shut_does_not_bar(self):
        self.read("<p><a>x<p></p>", (("p", (("a", ("x",)),)), ("p", ())),
                  [(7, 7, "</a>", "shut"), (7, 7, "</p>", "shut")])

    def test_frame_that_would_be_put(self):
        self.read("<a><cell>x", (("a", ("x",)),), [(3, 9, "", "barred")] + ended(10, "a"))

    def test_by_a_host_that_would_be_put(self):
        self.read("<list><c></list>", (("list", ()),), [(6, 9, "", "barred")])

    def test_ahead_of_deep(self):
        text = "<side>" * 19 + "<a><a>"
        self.assertEqual(read_text(BOOK, text)[1][0], (117, 120, "", "barred"))


class Deep(ReadCase):
    def test_twenty_one(self):
        text = "<side>" * 21 + "x" + "</side>" * 21
        tree, mends = read_text(BOOK, text)
        self.assertEqual(tree, within(["side"] * 20, "x"))
        self.assertEqual(mends, [(120, 126, "", "deep"), (267, 274, "", "stray")])

    def test_bare(self):
        text = "<side>" * 20 + "<br>x"
        tree, mends = read_text(BOOK, text)
        self.assertEqual(tree, within(["side"] * 20, "x"))
        self.assertEqual(mends, [(120, 124, "", "deep")] + ended(125, *["side"] * 20))
        self.assertEqual(read_text(BOOK, text[6:])[1], ended(119, *["side"] * 19))

    def test_host_with_its_frame(self):
        text = "<side>" * 19 + "<item>x"
        tree, mends = read_text(BOOK, text)
        self.assertEqual(tree, within(["side"] * 19, "x"))
        self.assertEqual(mends, [(114, 120, "", "deep")] + ended(121, *["side"] * 19))

    def test_run_for_which_there_are_no_hosts(self):
        text = "<side>" * 19 + "<list>x&<"
        tree, mends = read_text(BOOK, text)
        self.assertEqual(tree, within(["side"] * 19 + ["list"]))
        self.assertEqual(mends, [(120, 123, "", "deep")] + ended(123, "list", *["side"] * 19))

    def test_run_for_which_there_are_some(self):
        text = "<side>" * 18 + "<list>x"
        tree, mends = read_text(BOOK, text)
        self.assertEqual(tree, within(["side"] * 18 + ["list", "item"], "x"))
        self.assertEqual(mends, [(114, 114, "<item>", "host")] + ended(115, "item", "list", *["side"] * 18))

    def test_run_straight_in_two_frames(self):
        for many, rules in ((17, ["host", "host"]), (18, ["deep"]), (19, ["deep"])):
            text = "<side>" * many + "<deck>x" + "</deck>" + "</side>" * many
            rules = rules + ["left", "left"] * (many == 17)
            self.assertEqual([mend[3] for mend in read_text(BOOK, text)[1]], rules)

    def test_blanks_are_not_too_deep(self):
        text = "<side>" * 19 + "<list> \n"
        self.assertEqual(read_text(BOOK, text)[1][0], (120, 122, "", "blank"))
        text = "<side>" * 20 + " \n"
        self.assertEqual(read_text(BOOK, text), (within(["side"] * 20, " \n"), ended(122, *["side"] * 20)))


class Shut(ReadCase):
    def test_one(self):
        self.read("<h>x<p>y</p>", (("h", ("x",)), ("p", ("y",))), [(4, 4, "</h>", "shut")])

    def test_from_the_last_one_on(self):
        self.read("<p>x<side></side><h><h>y<p>z</p>", (("p", ("x",)), ("side", ()), ("h", (("h", ("y",)),)), ("p", ("z",))),
                  [(4, 4, "</p>", "shut"), (24, 24, "</h>", "shut"), (24, 24, "</h>", "shut")])
        self.read("<p><c><h>x<p></p>", (("p", (("c", (("h", ("x",)),)),)), ("p", ())),
                  [(10, 10, "</h>", "shut"), (10, 10, "</c>", "shut"), (10, 10, "</p>", "shut")])

    def test_not_over_a_wall(self):
        self.read("<p><c><side>", (("p", (("c", ()),)), ("side", ())),
                  [(6, 6, "</c>", "shut"), (6, 6, "</p>", "shut")] + ended(12, "side"))
        self.read("<side><p><list>", (("side", (("p", ()), ("list", ()))),),
                  [(9, 9, "</p>", "shut")] + ended(15, "list", "side"))
        self.read("<p><deck><row><cell><p>", (("p", (("deck", (("row", (("cell", (("p", ()),)),)),)),)),),
                  ended(23, "p", "cell", "row", "deck", "p"))

    def test_by_a_bare_one(self):
        self.read("<h>x<br>y", (("h", ("x",)), ("br", ()), "y"), [(4, 4, "</h>", "shut")])

    def test_host_beside_a_host(self):
        self.read("<list><item>x<item>y</list>", (("list", (("item", ("x",)), ("item", ("y",)))),),
                  [(13, 13, "</item>", "shut"), (20, 20, "</item>", "left")])

    def test_row_beside_a_row(self):
        self.read("<deck><row><cell>x<h><row></deck>", (("deck", (("row", (("cell", ("x", ("h", ()))),)), ("row", ()))),),
                  [(21, 21, "</h>", "shut"), (21, 21, "</cell>", "shut"), (21, 21, "</row>", "shut"),
                   (26, 26, "</row>", "left")])


class Frame(ReadCase):
    def test_host_without_its_frame(self):
        self.read("<item>x", (("list", (("item", ("x",)),)),), [(0, 0, "<list>", "frame")] + ended(7, "item", "list"))

    def test_frames_within_one_another(self):
        self.read("x<cell></deck>", ("x", ("deck", (("row", (("cell", ()),)),))),
                  [(1, 1, "<deck>", "frame"), (1, 1, "<row>", "frame"), (7, 7, "</cell>", "left"), (7, 7, "</row>", "left")])

    def test_straight_in_a_frame(self):
        self.read("<list><p>x</list>", (("list", (("item", (("p", ("x",)),)),)),),
                  [(6, 6, "<item>", "frame"), (10, 10, "</p>", "left"), (10, 10, "</item>", "left")])
        self.read("<deck><br></deck>", (("deck", (("row", (("cell", (("br", ()),)),)),)),),
                  [(6, 6, "<row>", "frame"), (6, 6, "<cell>", "frame"), (10, 10, "</cell>", "left"), (10, 10, "</row>", "left")])

    def test_behind_what_is_shut(self):
        self.read("<c><p>x<item>y", (("c", (("p", ("x",)), ("list", (("item", ("y",)),)))),),
                  [(7, 7, "</p>", "shut"), (7, 7, "<list>", "frame")] + ended(14, "item", "list", "c"))

    def test_in_another_frame(self):
        self.read("<list><cell></list>", (("list", (("item", (("deck", (("row", (("cell", ()),)),)),)),)),),
                  [(6, 6, "<item>", "frame"), (6, 6, "<deck>", "frame"), (6, 6, "<row>", "frame"),
                   (12, 19, "", "stray")] + ended(19, "cell", "row", "deck", "item", "list"))


class Left(ReadCase):
    def test_from_the_last_one_on(self):
        self.read("<p><h><c>x</p>", (("p", (("h", (("c", ("x",)),)),)),),
                  [(10, 10, "</c>", "left"), (10, 10, "</h>", "left")])

    def test_the_last_of_that_name(self):
        self.read("<h><c><h><c>x</h></c></h>", (("h", (("c", (("h", (("c", ("x",)),)),)),)),), [(13, 13, "</c>", "left")])

    def test_wall(self):
        self.read("<side><p><c>x</side>", (("side", (("p", (("c", ("x",)),)),)),),
                  [(13, 13, "</c>", "left"), (13, 13, "</p>", "left")])


class Stray(ReadCase):
    def test_not_open(self):
        self.read("</p>", (), [(0, 4, "", "stray")])
        self.read("x</zzz>y", ("xy",), [(1, 7, "", "stray")])
        self.read("<p>x</h>y</p></p>", (("p", ("xy",)),), [(4, 8, "", "stray"), (13, 17, "", "stray")])

    def test_closing_of_a_bare_one(self):
        self.read("<br>x</br>y", (("br", ()), "xy"), [(5, 10, "", "stray")])

    def test_open_behind_a_wall(self):
        self.read("<p><list><item>x</p>y</item></list></p>", (("p", ()), ("list", (("item", ("xy",)),))),
                  [(3, 3, "</p>", "shut"), (16, 20, "", "stray"), (35, 39, "", "stray")])
        self.read("<h><list><item>x</h>y</item></list></h>", (("h", (("list", (("item", ("xy",)),)),)),),
                  [(16, 20, "", "stray")])

    def test_straight_in_a_frame_nothing_is_put(self):
        self.read("<list></p></list>", (("list", ()),), [(6, 10, "", "stray")])


class Blank(ReadCase):
    def test_straight_in_a_frame(self):
        self.read("<list> <item> </item>\n</list> ", (("list", (("item", (" ",)),)), " "),
                  [(6, 7, "", "blank"), (21, 22, "", "blank")])
        self.read("<deck> \n <row>\n<cell></deck>", (("deck", (("row", (("cell", ()),)),)),),
                  [(6, 9, "", "blank"), (14, 15, "", "blank"), (21, 21, "</cell>", "left"), (21, 21, "</row>", "left")])

    def test_blanks_with_other_signs(self):
        self.read("<list> x </list>", (("list", (("item", (" x ",)),)),),
                  [(6, 6, "<item>", "host"), (9, 9, "</item>", "left")])
        self.read("<list> &l;</list>", (("list", (("item", (" <",)),)),),
                  [(6, 6, "<item>", "host"), (10, 10, "</item>", "left")])
        self.read("<list> & </list>", (("list", (("item", (" & ",)),)),),
                  [(6, 6, "<item>", "host"), (7, 8, "&a;", "sign"), (9, 9, "</item>", "left")])

    def test_each_other_sign(self):
        for code in range(ord("!"), ord("~") + 1):
            mends = read_text(BOOK, "<list> " + chr(code) + "</item></list>")[1]
            self.assertEqual([mend[3] for mend in mends], ["host"] + ["sign"] * (chr(code) in "<&"), chr(code))

    def test_blanks_open_what_waits(self):
        self.read("<h><c></h> ", (("h", (("c", ()),)), ("c", (" ",))),
                  [(6, 6, "</c>", "left"), (10, 10, "<c>", "anew")] + ended(11, "c"))

    def test_dropped_blanks_open_nothing(self):
        self.read("<deck><row><cell><c></cell> <cell>x</deck>",
                  (("deck", (("row", (("cell", (("c", ()),)), ("cell", (("c", ("x",)),)))),)),),
                  [(20, 20, "</c>", "left"), (27, 28, "", "blank"), (34, 34, "<c>", "anew"), (35, 35, "</c>", "left"),
                   (35, 35, "</cell>", "left"), (35, 35, "</row>", "left")])


class Host(ReadCase):
    def test_run_straight_in_a_frame(self):
        self.read("<list>x<item>y</list>", (("list", (("item", ("x",)), ("item", ("y",)))),),
                  [(6, 6, "<item>", "host"), (7, 7, "</item>", "shut"), (14, 14, "</item>", "left")])

    def test_hosts_within_one_another(self):
        self.read("<deck>x</deck>", (("deck", (("row", (("cell", ("x",)),)),)),),
                  [(6, 6, "<row>", "host"), (6, 6, "<cell>", "host"), (7, 7, "</cell>", "left"), (7, 7, "</row>", "left")])
        self.read("<deck><row>x</deck>", (("deck", (("row", (("cell", ("x",)),)),)),),
                  [(11, 11, "<cell>", "host"), (12, 12, "</cell>", "left"), (12, 12, "</row>", "left")])

    def test_ahead_of_what_comes_anew_and_of_signs(self):
        self.read("<deck><row><cell><c></cell>x&</deck>",
                  (("deck", (("row", (("cell", (("c", ()),)), ("cell", (("c", ("x&",)),)))),)),),
                  [(20, 20, "</c>", "left"), (27, 27, "<cell>", "host"), (27, 27, "<c>", "anew"), (28, 29, "&a;", "sign"),
                   (29, 29, "</c>", "left"), (29, 29, "</cell>", "left"), (29, 29, "</row>", "left")])

    def test_a_frame_that_is_put_has_no_waiting_ones(self):
        # The c waited in the row, and went with it.
        self.read("<deck><row><cell><c></row>x</deck>",
                  (("deck", (("row", (("cell", (("c", ()),)),)), ("row", (("cell", ("x",)),)))),),
                  [(20, 20, "</c>", "left"), (20, 20, "</cell>", "left"), (26, 26, "<row>", "host"),
                   (26, 26, "<cell>", "host"), (27, 27, "</cell>", "left"), (27, 27, "</row>", "left")])


class Signs(ReadCase):
    def test_lone_ones(self):
        self.read("a<b&c&l;", ("a<b&c<",), [(1, 2, "&l;", "sign"), (3, 4, "&a;", "sign")])
        self.read("x<p>&</p><", ("x", ("p", ("&",)), "<"), [(4, 5, "&a;", "sign"), (9, 10, "&l;", "sign")])

    def test_what_becomes_one_text(self):
        self.read("&<zzz>l;", ("&l;",), [(0, 1, "&a;", "sign"), (1, 6, "", "strange")])
        self.read("<<zzz>p>", ("<p>",), [(0, 1, "&l;", "sign"), (1, 6, "", "strange")])

    def test_at_begin_and_end(self):
        self.read("<&", ("<&",), [(0, 1, "&l;", "sign"), (1, 2, "&a;", "sign")])


class OneText(ReadCase):
    def test_over_what_is_dropped(self):
        self.read("a<zzz>b</zzz>c</p>d<zzz></zzz>e", ("abcde",),
                  [(1, 6, "", "strange"), (7, 13, "", "stray"), (14, 18, "", "stray"), (19, 24, "", "strange"),
                   (24, 30, "", "stray")])
        self.read("<a>x<a>y<p>z</a>", (("a", ("xyz",)),), [(4, 7, "", "barred"), (8, 11, "", "barred")])

    def test_not_over_a_tree(self):
        self.read("x<p></p>y<br>z", ("x", ("p", ()), "y", ("br", ()), "z"), [])

    def test_not_out_of_a_tree(self):
        self.read("x<h>y</h>z", ("x", ("h", ("y",)), "z"), [])


class Anew(ReadCase):
    def test_left(self):
        self.read("<h><c>x</h>y", (("h", (("c", ("x",)),)), ("c", ("y",))),
                  [(7, 7, "</c>", "left"), (11, 11, "<c>", "anew")] + ended(12, "c"))

    def test_shut(self):
        self.read("<p><c>x<p>y</c>z", (("p", (("c", ("x",)),)), ("p", (("c", ("y",)), "z"))),
                  [(7, 7, "</c>", "shut"), (7, 7, "</p>", "shut"), (10, 10, "<c>", "anew")] + ended(16, "p"))

    def test_only_those_of_sort_anew(self):
        self.read("<p><h>x</p>y", (("p", (("h", ("x",)),)), "y"), [(7, 7, "</h>", "left")])

    def test_what_its_own_closing_closes(self):
        self.read("<c>x</c>y", (("c", ("x",)), "y"), [])
        self.read("<c><b>x</c>y", (("c", (("b", ("x",)),)), ("b", ("y",))),
                  [(7, 7, "</b>", "left"), (11, 11, "<b>", "anew")] + ended(12, "b"))

    def test_the_end(self):
        self.read("<c>x", (("c", ("x",)),), ended(4, "c"))

    def test_openings_and_closings_leave_it_waiting(self):
        self.read("<h><c></h><br><p></p><zzz></zzz>x",
                  (("h", (("c", ()),)), ("br", ()), ("p", ()), ("c", ("x",))),
                  [(6, 6, "</c>", "left"), (21, 26, "", "strange"), (26, 32, "", "stray"), (32, 32, "<c>", "anew")]
                  + ended(33, "c"))

    def test_within_what_is_open_then(self):
        self.read("<h><c></h><p>x</p>y", (("h", (("c", ()),)), ("p", (("c", ("x",)),)), ("c", ("y",))),
                  [(6, 6, "</c>", "left"), (13, 13, "<c>", "anew"), (14, 14, "</c>", "left"), (18, 18, "<c>", "anew")]
                  + ended(19, "c"))

    def test_never_opened(self):
        self.read("x<h><c></h>", ("x", ("h", (("c", ()),))), [(7, 7, "</c>", "left")])


class Waiting(ReadCase):
    def test_outer_ones_first(self):
        self.read("<p><b><c>x</p>y", (("p", (("b", (("c", ("x",)),)),)), ("b", (("c", ("y",)),))),
                  [(10, 10, "</c>", "left"), (10, 10, "</b>", "left"), (14, 14, "<b>", "anew"), (14, 14, "<c>", "anew")]
                  + ended(15, "c", "b"))

    def test_behind_those_that_wait_already(self):
        self.read("<h><c></h><p><b></p>x", (("h", (("c", ()),)), ("p", (("b", ()),)), ("c", (("b", ("x",)),))),
                  [(6, 6, "</c>", "left"), (16, 16, "</b>", "left"), (20, 20, "<c>", "anew"), (20, 20, "<b>", "anew")]
                  + ended(21, "b", "c"))

    def test_in_the_row_of_the_wall(self):
        self.read("<side><h><c></h>x</side>y", (("side", (("h", (("c", ()),)), ("c", ("x",)))), "y"),
                  [(12, 12, "</c>", "left"), (16, 16, "<c>", "anew"), (17, 17, "</c>", "left")])

    def test_what_waits_in_a_wall_goes_with_it(self):
        self.read("<side><h><c></h></side>x", (("side", (("h", (("c", ()),)),)), "x"), [(12, 12, "</c>", "left")])
        self.read("<side><c></side>x", (("side", (("c", ()),)), "x"), [(9, 9, "</c>", "left")])
        self.read("<list><item><b></list>x", (("list", (("item", (("b", ()),)),)), "x"),
                  [(15, 15, "</b>", "left"), (15, 15, "</item>", "left")])

    def test_what_is_closed_behind_a_closed_wall(self):
        # The inner c lies in the row, which is closed with it; nothing of it waits in the deck or in the root.
        self.read("<deck><row><cell><c></deck></c>x", (("deck", (("row", (("cell", (("c", ()),)),)),)), "x"),
                  [(20, 20, "</c>", "left"), (20, 20, "</cell>", "left"), (20, 20, "</row>", "left"), (27, 31, "", "stray")])
        self.read("<deck><row><cell><c><row>x",
                  (("deck", (("row", (("cell", (("c", ()),)),)), ("row", (("cell", ("x",)),)))),),
                  [(20, 20, "</c>", "shut"), (20, 20, "</cell>", "shut"), (20, 20, "</row>", "shut"),
                   (25, 25, "<cell>", "host")] + ended(26, "cell", "row", "deck"))

    def test_a_frame_keeps_what_its_hosts_had(self):
        self.read("<list><item><b>x<item>y</b></list>",
                  (("list", (("item", (("b", ("x",)),)), ("item", (("b", ("y",)),)))),),
                  [(16, 16, "</b>", "shut"), (16, 16, "</item>", "shut"), (22, 22, "<b>", "anew"), (27, 27, "</item>", "left")])

    def test_the_root_waits_while_a_wall_is_open(self):
        self.read("<h><c></h><side>x</side>y",
                  (("h", (("c", ()),)), ("side", ("x",)), ("c", ("y",))),
                  [(6, 6, "</c>", "left"), (24, 24, "<c>", "anew")] + ended(25, "c"))

    def test_walls_within_one_another(self):
        text = "<h><c></h><side><p><b></p><side><p><a></p>x</side>y</side>z"
        self.assertEqual([mend[2:] for mend in read_text(BOOK, text)[1]], [
            ("</c>", "left"), ("</b>", "left"), ("</a>", "left"), ("<a>", "anew"), ("</a>", "left"), ("<b>", "anew"),
            ("</b>", "left"), ("<c>", "anew"), ("</c>", "end")])

    def test_a_wall_is_opened_with_none(self):
        self.read("<side><h><c></h></side><side>x</side>", (("side", (("h", (("c", ()),)),)), ("side", ("x",))),
                  [(12, 12, "</c>", "left")])

    def test_what_had_a_wall_in_it(self):
        self.read("<p><c><deck><row></p></row></deck><p>x", (
            ("p", (("c", (("deck", (("row", ()),)),)),)), ("p", (("c", ("x",)),))),
            [(17, 21, "", "stray"), (34, 34, "</c>", "shut"), (34, 34, "</p>", "shut"), (37, 37, "<c>", "anew")]
            + ended(38, "c", "p"))


class Late(ReadCase):
    def test_taken_off(self):
        self.read("<h><c>x</h></c>y", (("h", (("c", ("x",)),)), "y"), [(7, 7, "</c>", "left"), (11, 15, "", "late")])

    def test_once_for_each_that_waits(self):
        self.read("<h><c></h></c></c>x", (("h", (("c", ()),)), "x"),
                  [(6, 6, "</c>", "left"), (10, 14, "", "late"), (14, 18, "", "stray")])

    def test_the_last_such(self):
        self.read("<p><c><b><c></p></c>x", (("p", (("c", (("b", (("c", ()),)),)),)), ("c", (("b", ("x",)),))),
                  [(12, 12, "</c>", "left"), (12, 12, "</b>", "left"), (12, 12, "</c>", "left"), (16, 20, "", "late"),
                   (20, 20, "<c>", "anew"), (20, 20, "<b>", "anew")] + ended(21, "b", "c"))

    def test_another_stays(self):
        self.read("<p><b><c></p></b>x", (("p", (("b", (("c", ()),)),)), ("c", ("x",))),
                  [(9, 9, "</c>", "left"), (9, 9, "</b>", "left"), (13, 17, "", "late"), (17, 17, "<c>", "anew")]
                  + ended(18, "c"))

    def test_behind_a_wall_it_is_stray(self):
        self.read("<h><c></h><side></c></side>x", (("h", (("c", ()),)), ("side", ()), ("c", ("x",))),
                  [(6, 6, "</c>", "left"), (16, 20, "", "stray"), (27, 27, "<c>", "anew")] + ended(28, "c"))

    def test_what_is_open_goes_ahead(self):
        self.read("<h><c></h><c></c></c>x", (("h", (("c", ()),)), ("c", ()), "x"),
                  [(6, 6, "</c>", "left"), (17, 21, "", "late")])

    def test_in_a_wall(self):
        self.read("<side><h><c></h></c>x</side>", (("side", (("h", (("c", ()),)), "x")),),
                  [(12, 12, "</c>", "left"), (16, 20, "", "late")])

    def test_what_came_anew_is_open(self):
        self.read("<h><c></h>x</c>y</c>", (("h", (("c", ()),)), ("c", ("x",)), "y"),
                  [(6, 6, "</c>", "left"), (10, 10, "<c>", "anew"), (16, 20, "", "stray")])


class NotAnew(ReadCase):
    def test_one_of_that_name_is_near(self):
        self.read("<h><c></h><c>x</c>y", (("h", (("c", ()),)), ("c", ("x",)), "y"), [(6, 6, "</c>", "left")])
        self.read("<h><c><c></h>x", (("h", (("c", (("c", ()),)),)), ("c", ("x",))),
                  [(9, 9, "</c>", "left"), (9, 9, "</c>", "left"), (13, 13, "<c>", "anew")] + ended(14, "c"))

    def test_one_of_that_name_behind_a_wall(self):
        self.read("<c><side><h><c></h>x</side></c>",
                  (("c", (("side", (("h", (("c", ()),)), ("c", ("x",)))),)),),
                  [(15, 15, "</c>", "left"), (19, 19, "<c>", "anew"), (20, 20, "</c>", "left")])

    def test_near_ones_in_its_bars(self):
        self.read("<p><a></p><h>x</h>y", (("p", (("a", ()),)), ("h", ("x",)), "y"), [(6, 6, "</a>", "left")])
        self.read("<p><a></p><side>x</side>y", (("p", (("a", ()),)), ("side", ("x",)), ("a", ("y",))),
                  [(6, 6, "</a>", "left"), (24, 24, "<a>", "anew")] + ended(25, "a"))

    def test_near_ones_in_its_shuts(self):
        self.read("<p><b></p><h>x</h>y", (("p", (("b", ()),)), ("h", ("x",)), "y"), [(6, 6, "</b>", "left")])

    def test_nothing_waits_in_a_frame_from_ahead_of_it(self):
        text = "<p><c></p><list>x</list>y"
        self.assertEqual([mend[2:] for mend in read_text(BOOK, text)[1]],
                         [("</c>", "left"), ("<item>", "host"), ("</item>", "left"), ("<c>", "anew"), ("</c>", "end")])

    def test_near_ones_as_they_then_stand(self):
        book = read_book("p plain\na anew\nb anew bars a\nc anew shuts b")
        for order, told in (("abc", "ac"), ("bac", "ba"), ("cba", "cba"), ("acb", "ac"), ("bca", "ba"), ("cab", "ca")):
            text = "".join(["<p><%s></p>" % name for name in order]) + "x"
            mends = [mend for mend in read_text(book, text)[1] if mend[3] == "anew"]
            self.assertEqual(mends, [(30, 30, "<%s>" % name, "anew") for name in told], order)

    def test_twenty_are_open(self):
        book = read_book("p plain\nh plain\nb anew\nc anew")
        for many, told in ((17, "bc"), (18, "bc"), (19, "b"), (20, "")):
            text = "<p><b><c></p>" + "<h>" * many + "x"
            mends = [mend for mend in read_text(book, text)[1] if mend[3] == "anew"]
            self.assertEqual(mends, [(len(text) - 1, len(text) - 1, "<%s>" % name, "anew") for name in told], many)

    def test_all_are_taken_off(self):
        text = "<p><c></p>" + "<h>" * 20 + "x" + "</h>" * 20 + "y"
        self.assertEqual(read_text(BOOK, text)[1], [(6, 6, "</c>", "left")])


class End(ReadCase):
    def test_all_from_the_last_one_on(self):
        self.read("<h><list><item><b>", (("h", (("list", (("item", (("b", ()),)),)),)),), ended(18, "b", "item", "list", "h"))
        self.read("<side><h>x", (("side", (("h", ("x",)),)),), ended(10, "h", "side"))

    def test_behind_what_the_last_token_brought(self):
        self.read("<deck>x", (("deck", (("row", (("cell", ("x",)),)),)),),
                  [(6, 6, "<row>", "host"), (6, 6, "<cell>", "host")] + ended(7, "cell", "row", "deck"))
        self.read("<p><a><a>", (("p", (("a", ()),)),), [(6, 9, "", "barred")] + ended(9, "a", "p"))


class Told(unittest.TestCase):
    def test_new_each_time(self):
        text = "<p>x<p>&"
        first = read_text(BOOK, text)
        second = read_text(BOOK, text)
        self.assertEqual(first, second)
        first[1].clear()
        self.assertEqual(read_text(BOOK, text), second)
        self.assertEqual(len(second[1]), 3)

    def test_what_is_handed_in_stays(self):
        rows = tuple(tuple(row) for row in BOOK)
        read_text(BOOK, "<list>x<p><zzz>")
        self.assertEqual(BOOK, rows)

    def test_large_texts(self):
        self.assertEqual(read_text(BOOK, "x" * 5000), (("", ("x" * 5000,)), []))
        self.assertEqual(read_text(BOOK, "x<zzz>" * 800)[0], ("", ("x" * 800,)))
        self.assertEqual(len(read_text(BOOK, "<" * 5000)[1]), 5000)
        tree, mends = read_text(BOOK, "<p>" * 1500)
        self.assertEqual((tree, len(mends)), (("", (("p", ()),) * 1500), 1500))
        tree, mends = read_text(BOOK, "<h>" * 1500)
        self.assertEqual((tree, len(mends)), (within(["h"] * 20), 1500))

    def test_many_that_come_anew(self):
        names = ["abcdefg" + sign for sign in "abcdefghijk"]
        book = read_book("\n".join(["p plain shuts p"] + [name + " anew" for name in names]))
        text = "<p>" + "".join("<%s>" % name for name in names) + "x<p>" * 970
        tree, mends = read_text(book, text)
        self.assertEqual(tree[1][:-1], within(["p"] + names, "x")[1] * 970)
        self.assertEqual(tree[1][-1], ("p", ()))
        self.assertEqual(len(mends), 970 * 12 + 969 * 11 + 1)


if __name__ == "__main__":
    unittest.main()
