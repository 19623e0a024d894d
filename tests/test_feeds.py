import random
import unittest

from second import BOOK, BOOKS, some_book, some_pieces, some_text
from tagmend.errors import Ended, NotEnded
from tagmend.feeds import Feed
from tagmend.reading import read_text
from tagmend.tokens import tokens_of


def fed(book, pieces):
    # The answer to each piece, that to the end, and the tree.
    feed = Feed(book)
    answers = [feed.take(piece) for piece in pieces]
    return answers, feed.end(), feed.tree()


def second_answers(book, pieces):
    """For each piece the mends of the tokens that it settles, by their numbers alone: those of all tokens up to one are the
    mends of the text up to there, without what is closed at its end."""
    answers = []
    known = 0
    came = ""
    for piece in pieces:
        came += piece
        settled = [token for token in tokens_of(came)]
        if settled and settled[-1][0] == "run":
            settled.pop()
        text = came[:settled[-1][2]] if settled else ""
        mends = [mend for mend in read_text(book, text)[1] if mend[3] != "end"]
        answers.append(mends[known:])
        known = len(mends)
    return answers, read_text(book, came)[1][known:], read_text(book, came)[0]


class Answers(unittest.TestCase):
    def answers(self, pieces, *answers):
        told = fed(BOOK, pieces)
        self.assertEqual((told[0] + [told[1]]), list(answers), pieces)
        self.assertEqual(told[2], read_text(BOOK, "".join(pieces))[0], pieces)
        for answer in told[0] + [told[1]]:
            self.assertIs(type(answer), list)

    def test_no_piece(self):
        self.answers([], [])

    def test_empty_pieces(self):
        self.answers([""], [], [])
        self.answers(["", "x", "", ""], [], [], [], [], [])
        self.answers(["", "<p><p", "", ">", ""], [], [], [], [(3, 3, "</p>", "shut")], [], [(6, 6, "</p>", "end")])

    def test_whole_at_once(self):
        self.answers(["<p>x<p>&</p>"], [(4, 4, "</p>", "shut"), (7, 8, "&a;", "sign")], [])
        self.answers(["<zzz>x&"], [(0, 5, "", "strange")], [(6, 7, "&a;", "sign")])

    def test_cut_within_an_opening(self):
        mend = (3, 3, "</p>", "shut")
        for cut in range(4, 7):
            text = "<p><p>"
            answers = [[], [mend]] if cut < 6 else [[mend], []]
            self.answers([text[:cut], text[cut:]], *answers, [(6, 6, "</p>", "end")])

    def test_cut_within_a_closing(self):
        text = "x</abcdefgh>y"
        for cut in range(14):
            mend = [(1, 12, "", "stray")]
            self.answers([text[:cut], text[cut:]], *([[], mend] if cut < 12 else [mend, []]), [])

    def test_longest_names_sign_by_sign(self):
        self.answers("<abcdefgh>", *[[]] * 9, [(0, 10, "", "strange")], [])
        self.answers("</abcdefgh>", *[[]] * 10, [(0, 11, "", "stray")], [])
        self.answers("<abcdefghi>", *[[]] * 11, [(0, 1, "&l;", "sign")])
        self.answers("</abcdefghi>", *[[]] * 12, [(0, 1, "&l;", "sign")])

    def test_cut_within_an_escape(self):
        self.answers(["x&", "l;<br>"], [], [], [])
        self.answers(["x&l", ";", "<br>"], [], [], [], [])
        self.answers(["&", "a", ";"], [], [], [], [])
        self.answers(["&", "a"], [], [], [(0, 1, "&a;", "sign")])

    def test_cut_within_a_run(self):
        self.answers(["<list>a", "b", "c</list>"], [], [], [(6, 6, "<item>", "host"), (9, 9, "</item>", "left")], [])
        self.answers(["<list> ", "x"], [], [], [(6, 6, "<item>", "host"), (8, 8, "</item>", "end"), (8, 8, "</list>", "end")])
        self.answers(["<list> ", " "], [], [], [(6, 8, "", "blank"), (8, 8, "</list>", "end")])

    def test_run_at_the_end_is_not_settled(self):
        self.answers(["&", "&", "<br>"], [], [], [(0, 1, "&a;", "sign"), (1, 2, "&a;", "sign")], [])
        self.answers(["&", "&"], [], [], [(0, 1, "&a;", "sign"), (1, 2, "&a;", "sign")])

    def test_what_may_still_become_an_opening(self):
        self.answers(["&<", "b", "r", ">"], [], [], [], [(0, 1, "&a;", "sign")], [])
        self.answers(["<", "b", "r", " "], [], [], [], [], [(0, 1, "&l;", "sign")])
        self.answers(["<<", "<br>"], [], [(0, 1, "&l;", "sign"), (1, 2, "&l;", "sign")], [])
        self.answers(["<b<", "/b", "r><br>"], [], [], [(0, 1, "&l;", "sign"), (2, 7, "", "stray")], [])

    def test_several_tokens_settled_by_one_piece(self):
        self.answers(["<h><c>x</h>y<", "br></c></c>"], [(7, 7, "</c>", "left")],
                     [(11, 11, "<c>", "anew"), (20, 24, "", "stray")], [])

    def test_end_closes_all(self):
        self.answers(["<side>", "<h>", "x"], [], [], [], [(10, 10, "</h>", "end"), (10, 10, "</side>", "end")])

    def test_numbers_count_from_the_first_piece_on(self):
        self.answers(["</p>", "</p>", "x", "</p>"], [(0, 4, "", "stray")], [(4, 8, "", "stray")], [], [(9, 13, "", "stray")],
                     [])


class Refused(unittest.TestCase):
    def test_tree_ahead_of_the_end(self):
        feed = Feed(BOOK)
        self.assertRaises(NotEnded, feed.tree)
        feed.take("<p>x</p>")
        self.assertRaises(NotEnded, feed.tree)
        feed.take("")
        self.assertRaises(NotEnded, feed.tree)
        self.assertEqual(feed.end(), [])
        self.assertEqual(feed.tree(), ("", (("p", ("x",)),)))

    def test_behind_the_end(self):
        for pieces in ([], [""], ["<p>x"], ["<p>", "<p>"]):
            feed = Feed(BOOK)
            for piece in pieces:
                feed.take(piece)
            feed.end()
            tree = feed.tree()
            for number in range(2):
                self.assertRaises(Ended, feed.take, "y</p>")
                self.assertRaises(Ended, feed.take, "")
                self.assertRaises(Ended, feed.end)
                self.assertEqual(feed.tree(), tree)
            self.assertEqual(tree, read_text(BOOK, "".join(pieces))[0])

    def test_a_refused_tree_changes_nothing(self):
        feed = Feed(BOOK)
        feed.take("<p>x")
        self.assertRaises(NotEnded, feed.tree)
        self.assertEqual(feed.take("<p>"), [(4, 4, "</p>", "shut")])


class Own(unittest.TestCase):
    def test_side_by_side(self):
        left = Feed(BOOK)
        right = Feed(BOOK)
        self.assertEqual(left.take("<p>x"), [])
        self.assertEqual(right.take("</p>"), [(0, 4, "", "stray")])
        self.assertEqual(left.take("<p>"), [(4, 4, "</p>", "shut")])
        self.assertEqual(right.end(), [])
        self.assertEqual(left.take("y"), [])
        self.assertRaises(NotEnded, left.tree)
        self.assertEqual(left.end(), [(8, 8, "</p>", "end")])
        self.assertEqual(left.tree(), ("", (("p", ("x",)), ("p", ("y",)))))
        self.assertEqual(right.tree(), ("", ()))

    def test_a_changed_answer_changes_nothing(self):
        feed = Feed(BOOK)
        first = feed.take("</p></p>")
        first.clear()
        second = feed.take("</h>")
        self.assertEqual(second, [(8, 12, "", "stray")])
        second.append("x")
        last = feed.end()
        self.assertEqual(last, [])
        last.append("x")
        self.assertEqual(feed.tree(), ("", ()))

    def test_an_answer_stays(self):
        feed = Feed(BOOK)
        first = feed.take("</p>")
        feed.take("</h>")
        feed.end()
        self.assertEqual(first, [(0, 4, "", "stray")])


class ManyPieces(unittest.TestCase):
    def test_cut_by_chance(self):
        source = random.Random(24)
        for number in range(1200):
            book = source.choice(BOOKS) if number % 2 else some_book(source)
            pieces = some_pieces(source, some_text(source, book, 12))
            told = fed(book, pieces)
            self.assertEqual(told, second_answers(book, pieces), (book, pieces))
            text = "".join(pieces)
            self.assertEqual((told[2], sum(told[0], []) + told[1]), read_text(book, text), (book, pieces))

    def test_each_cut_of_two(self):
        source = random.Random(240)
        for number in range(100):
            text = some_text(source, BOOK, 10)
            for cut in range(len(text) + 1):
                pieces = [text[:cut], text[cut:]]
                self.assertEqual(fed(BOOK, pieces), second_answers(BOOK, pieces), pieces)

    def test_signs_by_chance(self):
        source = random.Random(2400)
        for number in range(600):
            text = "".join(source.choices("<</>>&;pbrl \n", k=source.randrange(30)))
            pieces = some_pieces(source, text)
            self.assertEqual(fed(BOOK, pieces), second_answers(BOOK, pieces), pieces)

    def test_long_texts_sign_by_sign(self):
        source = random.Random(24000)
        texts = ["<" * 4500, "<>" * 2200, "x" * 4500, "<p>" * 1500, "</abcdefg" * 500, "&l;" * 1500, "<zzz>x" * 700]
        texts.append("".join([some_text(source, BOOK, 300) for number in range(12)])[:4500])
        for text in texts:
            answers, last, tree = fed(BOOK, text)
            self.assertEqual((tree, sum(answers, []) + last), read_text(BOOK, text), text[:20])


if __name__ == "__main__":
    unittest.main()
