import itertools
import unittest

from tagmend.signs import escaped, lone_ones, told_by
from tagmend.tokens import tokens_of

TEXTS = (
    "", " ", "\n", "a", "a b\nc", "<", "&", "<&", "&<", "&l;", "&a;", "&a;l;", "&l;a;", "&&l;", "<a>", "</a>", "<a>b</a>",
    "&lt;", "a < b & c > d", "&l;<&a;&", ";&", "l;", "<<>>&&;;", "&a;a;a;",
)


def all_texts(signs, longest):
    for length in range(longest + 1):
        for text in itertools.product(signs, repeat=length):
            yield "".join(text)


def read_slowly(run):
    # A run gone through sign by sign: what it tells, and the numbers of its lone signs.
    told = ""
    lone = []
    number = 0
    while number < len(run):
        three = run[number:number + 3]
        if three in ("&l;", "&a;"):
            told += "<" if three == "&l;" else "&"
            number += 3
            continue
        if run[number] in "<&":
            lone.append(number)
        told += run[number]
        number += 1
    return told, lone


class Told(unittest.TestCase):
    def told(self, run, told, *lone):
        self.assertEqual(told_by(run), told, run)
        self.assertEqual(lone_ones(run), list(lone), run)

    def test_nothing(self):
        self.told("", "")

    def test_signs_for_themselves(self):
        signs = "".join(chr(code) for code in range(ord(" "), ord("~") + 1) if chr(code) not in "<&") + "\n"
        self.told(signs, signs)
        self.told("a ; l; a; >", "a ; l; a; >")

    def test_both_signs_told(self):
        self.told("&l;", "<")
        self.told("&a;", "&")
        self.told("x&l;y&a;z", "x<y&z")
        self.told("&l;&l;&a;&a;", "<<&&")
        self.told("&l;a>", "<a>")

    def test_told_signs_are_not_told_again(self):
        self.told("&a;l;", "&l;")
        self.told("&a;a;", "&a;")
        self.told("&a;a;l;", "&a;l;")
        self.told("&l;l;", "<l;")

    def test_lone_and(self):
        self.told("&", "&", 0)
        self.told("&l", "&l", 0)
        self.told("&a", "&a", 0)
        self.told("&;", "&;", 0)
        self.told("&al;", "&al;", 0)
        self.told("&la;", "&la;", 0)
        self.told("&L;", "&L;", 0)
        self.told("&b;", "&b;", 0)
        self.told("& l;", "& l;", 0)
        self.told("&l ;", "&l ;", 0)
        self.told("&l\n;", "&l\n;", 0)
        self.told("&lt;", "&lt;", 0)
        self.told("ab&", "ab&", 2)

    def test_and_ahead_of_and(self):
        self.told("&&l;", "&<", 0)
        self.told("&&a;", "&&", 0)
        self.told("&&&l;&", "&&<&", 0, 1, 5)
        self.told("&l&l;", "&l<", 0)
        self.told("&a&a;;", "&a&;", 0)

    def test_lone_less(self):
        self.told("<", "<", 0)
        self.told("a<b", "a<b", 1)
        self.told("<&l;<", "<<<", 0, 4)
        self.told("&<l;", "&<l;", 0, 1)
        self.told("&l<;", "&l<;", 0, 2)

    def test_openings_and_closings_in_a_run_are_lone_signs(self):
        self.told("<a>", "<a>", 0)
        self.told("x</a>y<b>", "x</a>y<b>", 1, 6)
        self.told("<a>&l;/a>", "<a></a>", 0)

    def test_numbers_rise(self):
        self.told("<&<&l;&<", "<&<<&<", 0, 1, 2, 6, 7)

    def test_all_short_runs(self):
        for run in all_texts("<&la;", 6):
            self.assertEqual((told_by(run), lone_ones(run)), read_slowly(run), run)

    def test_long_run(self):
        self.assertEqual(told_by("&l;&a;<&" * 600), "<&<&" * 600)
        lone = [number for number in range(4800) if number % 8 in (6, 7)]
        self.assertEqual(lone_ones("&l;&a;<&" * 600), lone)

    def test_told_anew(self):
        first = lone_ones("<&")
        first.append(9)
        self.assertEqual(lone_ones("<&"), [0, 1])


class Escaped(unittest.TestCase):
    def test_each_sign(self):
        self.assertEqual(escaped("<"), "&l;")
        self.assertEqual(escaped("&"), "&a;")
        for code in range(ord(" "), ord("~") + 1):
            if chr(code) not in "<&":
                self.assertEqual(escaped(chr(code)), chr(code))
        self.assertEqual(escaped("\n"), "\n")

    def test_texts(self):
        self.assertEqual(escaped(""), "")
        self.assertEqual(escaped("a < b & c > d"), "a &l; b &a; c > d")
        self.assertEqual(escaped("<&"), "&l;&a;")
        self.assertEqual(escaped("&<"), "&a;&l;")
        self.assertEqual(escaped("<a>&</a>"), "&l;a>&a;&l;/a>")

    def test_what_is_escaped_already(self):
        self.assertEqual(escaped("&l;"), "&a;l;")
        self.assertEqual(escaped("&a;"), "&a;a;")
        self.assertEqual(escaped("&l;<"), "&a;l;&l;")
        self.assertEqual(escaped(escaped("<")), "&a;l;")

    def one_run_without_lone_signs(self, text):
        run = escaped(text)
        self.assertEqual(told_by(run), text)
        self.assertEqual(lone_ones(run), [], text)
        tokens = [] if text == "" else [("run", 0, len(run), text)]
        self.assertEqual(tokens_of(run), tokens)

    def test_one_run_without_lone_signs(self):
        for text in TEXTS + ("<&" * 2000, "&l;<a>" * 700):
            self.one_run_without_lone_signs(text)

    def test_all_short_texts(self):
        for text in all_texts("<&la;>/", 5):
            self.one_run_without_lone_signs(text)


if __name__ == "__main__":
    unittest.main()
