"""Reading: any text to one tree that keeps a book's rules, and the mends that this takes."""

from tagmend.books import BARS, SHUTS, is_wall, row_of, sort_of
from tagmend.faults import share_a_name
from tagmend.plans import MOST_OPEN, closing, hosts_for, opening
from tagmend.signs import escaped, lone_ones
from tagmend.tokens import closing_of, opening_of, tokens_of
from tagmend.trees import ROOT_NAME, is_text, near_of, straight_above

BLANKS = " \n"


def read_text(book, text):
    reader = reader_of(book, text)
    return (reader.root(), reader.mends)


def reader_of(book, text):
    # A reader that is through with the text.
    reader = Reader(book)
    for kind, start, stop, told in tokens_of(text):
        reader.read(kind, start, text[start:stop], told)
    reader.finish(len(text))
    return reader


class Branch:
    # A tree that is still open. Names wait in it only where it is a wall or the root.
    def __init__(self, name, place):
        self.name = name
        self.place = place
        self.parts = []
        self.waiting = []


class Reader:
    # Takes the tokens of one text in their order. The branches are the root and the open ones. Spots are found by what
    # is laid down of each run that comes into the tree: where it starts, its signs, the place of its text, and how many
    # signs that text had ahead of it.
    def __init__(self, book):
        self.book = book
        self.branches = [Branch(ROOT_NAME, ())]
        self.mends = []
        self.laid = []

    def root(self):
        return (ROOT_NAME, tuple(self.branches[0].parts))

    def read(self, kind, start, signs, told):
        if kind == "open":
            self.read_opening(start, signs, told)
        elif kind == "close":
            self.read_closing(start, signs, told)
        else:
            self.read_run(start, signs, told)

    def finish(self, size):
        self.close_behind(0, size, "end")

    def read_opening(self, start, signs, name):
        if sort_of(self.book, name) is None:
            self.drop(start, signs, "strange")
            return
        plan = opening(self.book, self.open_names(), name)
        if plan[0] == "drop":
            self.drop(start, signs, plan[1])
            return
        self.close_behind(plan[1], start, "shut")
        for put in plan[2][:-1]:
            self.put_in(put, start, "frame")
        self.enter(name)
        if sort_of(self.book, name) == "bare":
            self.leave()

    def read_closing(self, start, signs, name):
        number = closing(self.book, self.open_names(), name)
        wall = self.last_wall()
        if number is not None:
            # Where it closes a wall, what waits in that one from here on is gone with it in the next step.
            self.close_behind(number + 1, start, "left")
            self.leave()
        elif name in wall.waiting:
            wall.waiting = without_last(wall.waiting, name)
            self.drop(start, signs, "late")
        else:
            self.drop(start, signs, "stray")

    def read_run(self, start, signs, told):
        hosts = hosts_for(self.book, self.open_names())
        if self.is_in_frame() and told.strip(BLANKS) == "":
            self.drop(start, signs, "blank")
        elif hosts is None:
            self.drop(start, signs, "deep")
        else:
            for host in hosts:
                self.put_in(host, start, "host")
            self.put_in_waiting(start)
            for number in lone_ones(signs):
                place = start + number
                self.mends.append((place, place + 1, escaped(signs[number]), "sign"))
            self.add_text(start, signs, told)

    def open_names(self):
        return tuple([branch.name for branch in self.branches[1:]])

    def is_in_frame(self):
        return sort_of(self.book, straight_above(self.open_names())) == "frame"

    def last_wall(self):
        # The root is none, and stands in for one where none is open.
        walls = [branch for branch in self.branches if is_wall(self.book, branch.name)]
        return walls[-1] if len(walls) > 0 else self.branches[0]

    def enter(self, name):
        above = self.branches[-1]
        self.branches.append(Branch(name, above.place + (len(above.parts),)))

    def leave(self):
        branch = self.branches.pop()
        self.branches[-1].parts.append((branch.name, tuple(branch.parts)))

    def drop(self, start, signs, rule):
        self.mends.append((start, start + len(signs), "", rule))

    def put_in(self, name, start, rule):
        self.mends.append((start, start, opening_of(name), rule))
        self.enter(name)

    def close_behind(self, kept, start, rule):
        closed = self.open_names()[kept:]
        for name in reversed(closed):
            self.mends.append((start, start, closing_of(name), rule))
            self.leave()
        self.last_wall().waiting.extend(those_that_wait(self.book, closed))

    def put_in_waiting(self, start):
        wall = self.last_wall()
        names = wall.waiting
        wall.waiting = []
        for name in names:
            if may_come_anew(self.book, self.open_names(), name):
                self.put_in(name, start, "anew")

    def add_text(self, start, signs, told):
        branch = self.branches[-1]
        ahead = ""
        if len(branch.parts) > 0 and is_text(branch.parts[-1]):
            ahead = branch.parts.pop()
        self.laid.append((start, signs, branch.place + (len(branch.parts),), len(ahead)))
        branch.parts.append(ahead + told)


def those_that_wait(book, closed):
    waiting = []
    for name in closed:
        # Whatever lies behind a wall would wait in that, which is closed with it.
        if is_wall(book, name):
            break
        if sort_of(book, name) == "anew":
            waiting.append(name)
    return waiting


def without_last(names, name):
    number = len(names) - 1
    while names[number] != name:
        number = number - 1
    return names[:number] + names[number + 1:]


def may_come_anew(book, names, name):
    row = row_of(book, name)
    unfit = (name,) + row[SHUTS] + row[BARS]
    return len(names) < MOST_OPEN and not share_a_name(near_of(book, names), unfit)
