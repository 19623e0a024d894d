"""Feeds: a text that comes in pieces, read as far as its tokens are settled."""

from tagmend.errors import Ended, NotEnded
from tagmend.reading import Reader
from tagmend.tokens import LONGEST_BEGUN, runs_between, settled_tokens


class Feed:
    def __init__(self, book):
        self.reader = Reader(book)
        self.text = ""
        self.settled = 0
        self.ended = False

    def take(self, piece):
        self.refuse_behind_end()
        # What came before is not searched again but for what may become an opening or a closing by this piece.
        searched = max(self.settled, len(self.text) - LONGEST_BEGUN)
        self.text = self.text + piece
        known = len(self.reader.mends)
        self.read_tokens(settled_tokens(self.text, self.settled, searched))
        return self.reader.mends[known:]

    def end(self):
        self.refuse_behind_end()
        self.ended = True
        known = len(self.reader.mends)
        self.read_tokens(runs_between(self.text, self.settled, len(self.text)))
        self.reader.finish(len(self.text))
        return self.reader.mends[known:]

    def tree(self):
        if not self.ended:
            raise NotEnded("the tree is told behind the end alone")
        return self.reader.root()

    def refuse_behind_end(self):
        if self.ended:
            raise Ended("nothing is taken behind the end")

    def read_tokens(self, tokens):
        for kind, start, stop, told in tokens:
            self.reader.read(kind, start, self.text[start:stop], told)
            self.settled = stop
