import itertools
import re
import unittest

from tagmend.signs import told_by
from tagmend.tokens import tokens_of

TAG = re.compile(r"<(/?)([a-z]{1,8})>")


def all_texts(signs, longest):
    for length in range(longest + 1):
        for text in itertools.product(signs, repeat=length):
            yield "".join(text)


def cut_by_pattern(text):
    tokens = []
    ahead = 0
    for found in TAG.finditer(text):
        if found.start() > ahead:
            tokens.append(("run", ahead, found.start(), told_by(text[ahead:found.start()])))
        tokens.append(("close" if found.group(1) else "open", found.start(), found.end(), found.group(2)))
        ahead = found.end()
    if len(text) > ahead:
        tokens.append(("run", ahead, len(text), told_by(text[ahead:])))
    return tokens


class TokenCase(unittest.TestCase):
    def cut(self, text, *tokens):
        self.assertEqual(tokens_of(text), list(tokens), text)

    def one_run(self, text):
        self.cut(text, ("run", 0, len(text), text))


class Tags(TokenCase):
    def test_opening(self):
        self.cut("<a>", ("open", 0, 3, "a"))
        self.cut("<abcdefgh>", ("open", 0, 10, "abcdefgh"))
        self.cut("<az>", ("open", 0, 4, "az"))

    def test_closing(self):
        self.cut("</a>", ("close", 0, 4, "a"))
        self.cut("</abcdefgh>", ("close", 0, 11, "abcdefgh"))
        self.cut("</az>", ("close", 0, 5, "az"))

    def test_keywords_and_sorts_are_letters_like_others(self):
        self.cut("<shuts></bars>", ("open", 0, 7, "shuts"), ("close", 7, 14, "bars"))
        self.cut("<plain>", ("open", 0, 7, "plain"))

    def test_no_name(self):
        self.one_run("<>")
        self.one_run("</>")
        self.one_run("<")
        self.one_run("</")
        self.one_run("<<>>")

    def test_nine_letters(self):
        self.one_run("<abcdefghi>")
        self.one_run("</abcdefghi>")
        self.one_run("<" + "a" * 4000 + ">")

    def test_other_signs_in_a_name(self):
        for sign in "AZ09`{ \n\t_-.:/&;<\u00e9":
            for name in (sign, "a" + sign, "a" + sign + "b", sign * 2):
                self.assertEqual(tokens_of("<" + name + ">")[0][0], "run", name)
                self.assertEqual(tokens_of("</" + name + ">")[0][0], "run", name)

    def test_blanks_around_a_name(self):
        for text in ("< a>", "<a >", "</ a>", "</a >", "< /a>", "<a\n>", "<\na>", "<a/>", "<//a>", "<a b>", "<A>", "</A>",
                     "<a1>", "</1a>", "<aB>"):
            self.one_run(text)

    def test_without_its_end(self):
        for text in ("<a", "</a", "<a;", "<a x", "x<a", "x</a", "x<", "x</", "<abcdefgh", "</abcdefgh", "a>", "/a>", "/>"):
            self.one_run(text)

    def test_end_that_comes_behind(self):
        self.one_run("<a .>")
        self.cut("<a x<b>", ("run", 0, 4, "<a x"), ("open", 4, 7, "b"))


class TagsWithinWhatLooksLikeOne(TokenCase):
    def test_opening(self):
        self.cut("<a<b>", ("run", 0, 2, "<a"), ("open", 2, 5, "b"))
        self.cut("<a<b>>", ("run", 0, 2, "<a"), ("open", 2, 5, "b"), ("run", 5, 6, ">"))
        self.cut("</a<b>", ("run", 0, 3, "</a"), ("open", 3, 6, "b"))
        self.cut("<<a>", ("run", 0, 1, "<"), ("open", 1, 4, "a"))
        self.cut("</<a>", ("run", 0, 2, "</"), ("open", 2, 5, "a"))
        self.cut("<<<a>>", ("run", 0, 2, "<<"), ("open", 2, 5, "a"), ("run", 5, 6, ">"))

    def test_closing(self):
        self.cut("</a</b>", ("run", 0, 3, "</a"), ("close", 3, 7, "b"))
        self.cut("<</a>", ("run", 0, 1, "<"), ("close", 1, 5, "a"))
        self.cut("<a</b>", ("run", 0, 2, "<a"), ("close", 2, 6, "b"))
        self.cut("</</a>", ("run", 0, 2, "</"), ("close", 2, 6, "a"))

    def test_behind_eight_and_nine_letters(self):
        self.cut("<abcdefgh<b>", ("run", 0, 9, "<abcdefgh"), ("open", 9, 12, "b"))
        self.cut("<abcdefghi<b>", ("run", 0, 10, "<abcdefghi"), ("open", 10, 13, "b"))
        self.cut("</abcdefgh</b>", ("run", 0, 10, "</abcdefgh"), ("close", 10, 14, "b"))

    def test_within_what_looks_like_a_told_sign(self):
        self.cut("&<a>l;", ("run", 0, 1, "&"), ("open", 1, 4, "a"), ("run", 4, 6, "l;"))
        self.cut("&l</a>;", ("run", 0, 2, "&l"), ("close", 2, 6, "a"), ("run", 6, 7, ";"))


class Runs(TokenCase):
    def test_text_without_signs(self):
        self.cut("")

    def test_one_run(self):
        for text in ("a", " ", "\n", "a b\nc", "a>b", ";", "&", "&l", "&al;", "<"):
            self.one_run(text)

    def test_ahead_between_and_behind(self):
        self.cut(
            "x<a>yy</b>zzz",
            ("run", 0, 1, "x"), ("open", 1, 4, "a"), ("run", 4, 6, "yy"), ("close", 6, 10, "b"), ("run", 10, 13, "zzz"),
        )

    def test_none_where_there_is_no_sign(self):
        self.cut("<a></a>", ("open", 0, 3, "a"), ("close", 3, 7, "a"))
        self.cut("<a><b>x", ("open", 0, 3, "a"), ("open", 3, 6, "b"), ("run", 6, 7, "x"))
        self.cut("x</a></a>", ("run", 0, 1, "x"), ("close", 1, 5, "a"), ("close", 5, 9, "a"))
        self.cut("<a> </a>", ("open", 0, 3, "a"), ("run", 3, 4, " "), ("close", 4, 8, "a"))

    def test_told_signs(self):
        self.cut("&l;", ("run", 0, 3, "<"))
        self.cut("&a;", ("run", 0, 3, "&"))
        self.cut("&&l;", ("run", 0, 4, "&<"))
        self.cut("&al;", ("run", 0, 4, "&al;"))
        self.cut("&a;l;", ("run", 0, 5, "&l;"))
        self.cut("&l;a>", ("run", 0, 5, "<a>"))
        self.cut("x&l;<a>&a;", ("run", 0, 4, "x<"), ("open", 4, 7, "a"), ("run", 7, 10, "&"))

    def test_start_and_stop_are_those_of_the_text(self):
        # What is told is shorter than what tells it; the numbers count the text's signs.
        self.cut("&l;&a;<a>&l;</a>", ("run", 0, 6, "<&"), ("open", 6, 9, "a"), ("run", 9, 12, "<"), ("close", 12, 16, "a"))


class All(TokenCase):
    def test_all_short_texts(self):
        for text in all_texts("<>/a&l;A", 5):
            self.assertEqual(tokens_of(text), cut_by_pattern(text), text)

    def test_tokens_lie_side_by_side(self):
        for text in all_texts("<>/a&", 7):
            tokens = tokens_of(text)
            self.assertEqual([0] + [stop for kind, start, stop, told in tokens],
                             [start for kind, start, stop, told in tokens] + [len(text)], text)
            kinds = [kind for kind, start, stop, told in tokens]
            self.assertNotIn(("run", "run"), list(zip(kinds, kinds[1:])), text)
            self.assertTrue(all(start < stop for kind, start, stop, told in tokens), text)

    def test_long_texts(self):
        for piece in ("<", "<a", "</", "&l;", "<a></a>", "x<ab>", "<abcdefgh", "a", "<a<b>", "\n", "</a</b> "):
            text = (piece * 4500)[:4500]
            self.assertEqual(tokens_of(text), cut_by_pattern(text))

    def test_told_anew(self):
        first = tokens_of("x<a>")
        first.pop()
        self.assertEqual(tokens_of("x<a>"), [("run", 0, 1, "x"), ("open", 1, 4, "a")])
        self.assertEqual([type(token) for token in tokens_of("x<a></a>")], [tuple, tuple, tuple])


if __name__ == "__main__":
    unittest.main()
