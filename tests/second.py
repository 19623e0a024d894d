"""Books, texts and trees made for the tests, and a second reading of a text, written apart from the program's."""

import re

from tagmend.booktexts import read_book
from tagmend.books import is_book
from tagmend.faults import fault_of

BOOK = read_book("\n".join((
    "p plain shuts h p bars a",
    "h plain",
    "a anew bars a h",
    "b anew shuts b h",
    "c anew bars item",
    "br bare shuts h bars a",
    "side room shuts p bars h",
    "list frame item shuts p",
    "item plain bars h",
    "deck frame row bars a",
    "row frame cell bars h",
    "cell plain",
)))
BOOKS = (
    BOOK,
    (),
    read_book("p plain shuts p\na anew\nb anew\nc anew"),
    read_book("a anew shuts a b\nb anew bars a\nc anew shuts c bars b\np plain bars p"),
    read_book("r room shuts a\ns room bars a b\na anew\nb anew shuts a\nbr bare shuts b bars a"),
    read_book("t frame g shuts p\ng frame r bars a\nr frame d\nd plain bars p\na anew bars d\np plain shuts p\nb anew"),
    read_book("f frame e\ne plain\ng frame d\nd plain bars e\na anew\nb anew shuts a bars e\nr room shuts b bars d"),
)
SORTS = ("bare", "plain", "plain", "anew", "anew", "anew", "room", "frame", "frame")
NAMES = ("a", "b", "c", "d", "e", "f", "g", "h", "p", "longname", "li", "br")
RUNS = ("x", "y", "xy z", " ", "\n", " \n ", "&l;", "&a;", "&", "<", "&a;l;", "a&b<c", "<p", "</", ">", "&l", "<P>", "</1>")


def some_book(source):
    while True:
        names = source.sample(NAMES, source.randrange(len(NAMES) + 1))
        sorts = {name: source.choice(SORTS) for name in names}
        book = tuple(some_row(source, name, sorts) for name in names)
        if is_book(book):
            return book


def some_row(source, name, sorts):
    hosts = [other for other in sorts if sorts[other] in ("plain", "frame")]
    named = [other for other in sorts if sorts[other] in ("plain", "anew")]
    host = source.choice(hosts or ["x"]) if sorts[name] == "frame" else ""
    return (name, sorts[name], host, some_names(source, named), some_names(source, named))


def some_names(source, names):
    many = min(len(names), source.choice((0, 0, 0, 0, 1, 2)))
    return tuple(sorted(source.sample(names, many)))


def some_text(source, book, most):
    names = [row[0] for row in book] * 4 + ["zzz", "shuts"]
    if source.randrange(3) == 0:
        names = source.sample(names, min(3, len(names)))
    weights = source.choice(((4, 2, 2), (2, 2, 1), (6, 1, 2), (1, 3, 2), (3, 3, 6)))
    pieces = []
    for kind in source.choices(("open", "close", "run"), weights, k=source.randrange(most)):
        if kind == "run":
            pieces.append(source.choice(RUNS))
        else:
            pieces.append(("<%s>" if kind == "open" else "</%s>") % source.choice(names))
    return "".join(pieces)


def some_pieces(source, text):
    many = source.choice((0, 1, 2, 5, len(text), len(text)))
    cuts = sorted([source.randrange(len(text) + 1) for number in range(many)])
    return [text[start:stop] for start, stop in zip([0] + cuts, cuts + [len(text)])]


def some_tree(source, book, level):
    return ("", some_parts(source, [row[0] for row in book] or ["zzz"], level))


def some_parts(source, names, level):
    parts = []
    for number in range(source.choice((0, 1, 2, 3, 4))):
        if level == 0 or source.randrange(4) == 0:
            parts.append(source.choice(("x", "<", "&", "a&l;b", "</p>", " ", "\n", "")))
        else:
            parts.append((source.choice(names), some_parts(source, names, level - 1)))
    return tuple(parts)


def without_faults(book, tree):
    fault = fault_of(book, tree)
    while fault is not None:
        tree = without(tree, fault[1])
        fault = fault_of(book, tree)
    return tree


def without(tree, place):
    name, parts = tree
    number = place[0]
    if len(place) > 1:
        return (name, parts[:number] + (without(parts[number], place[1:]),) + parts[number + 1:])
    return (name, parts[:number] + parts[number + 1:])


def second_reading(book, text):
    """The tree and the mends, found by writing the mended text first and parsing that strictly."""
    second = Second(book)
    for start, stop, kind, signs in pieces_of(text):
        getattr(second, kind)(start, stop, signs)
    for name in second.names[::-1]:
        second.mend(len(text), len(text), "</%s>" % name, "end")
    out = "".join(second.out)
    bare = [row[0] for row in book if row[1] == "bare"]
    return strict_tree(out, bare), second.mends, out


def pieces_of(text):
    pieces = []
    done = 0
    for found in re.finditer(r"<(/?)([a-z]{1,8})>", text):
        if found.start() > done:
            pieces.append((done, found.start(), "run", text[done:found.start()]))
        pieces.append((found.start(), found.end(), "close" if found.group(1) else "opening", found.group(2)))
        done = found.end()
    if done < len(text):
        pieces.append((done, len(text), "run", text[done:]))
    return pieces


class Second:
    def __init__(self, book):
        self.rows = {row[0]: row for row in book}
        self.frames = {row[2]: row[0] for row in book if row[1] == "frame"}
        self.hosts = {row[0]: row[2] for row in book if row[1] == "frame"}
        self.names = []
        # By the number of the open ones with which a wall is the last one; 0 is the root.
        self.rows_of_waiting = {0: []}
        self.mends = []
        self.out = []

    def mend(self, start, stop, new, rule):
        self.mends.append((start, stop, new, rule))
        self.out.append(new)

    def is_wall(self, name):
        return self.rows[name][1] in ("room", "frame")

    def wall(self, names):
        return max([0] + [number for number, name in enumerate(names, 1) if self.is_wall(name)])

    def near(self, names):
        return set(names[self.wall(names):])

    def frames_above(self, name):
        found = set()
        while name in self.frames:
            name = self.frames[name]
            found.add(name)
        return found

    def hosts_in(self, names):
        hosts = []
        name = names[-1] if names else ""
        while name in self.hosts:
            name = self.hosts[name]
            hosts.append(name)
        return hosts

    def find(self, name):
        numbers = [number for number, other in enumerate(self.names) if other == name]
        if not numbers:
            return None
        between = [wall for wall in self.names[numbers[-1] + 1:] if self.is_wall(wall)]
        return numbers[-1] if all(name in self.frames_above(wall) for wall in between) else None

    def plan(self, name):
        put = [name]
        while put[0] in self.frames:
            found = self.find(self.frames[put[0]])
            if found is not None:
                return found + 1, put
            put.insert(0, self.frames[put[0]])
        hosts = self.hosts_in(self.names)
        if hosts:
            return len(self.names), hosts + put
        first = self.wall(self.names)
        shut = [number for number in range(first, len(self.names)) if self.names[number] in self.rows[put[0]][3]]
        return min(shut + [len(self.names)]), put

    def weighed(self, name):
        kept, put = self.plan(name)
        for number in range(len(put)):
            if self.near(self.names[:kept] + put[:number]) & set(self.rows[put[number]][4]):
                return "drop", "barred"
        return ("drop", "deep") if kept + len(put) > 20 else ("open", kept, tuple(put))

    def cut(self, kept, start, rule, stays):
        stay_wall = self.wall(self.names[:stays])
        for number in range(kept, len(self.names)):
            name = self.names[number]
            if self.rows[name][1] == "anew" and self.wall(self.names[:number]) == stay_wall:
                self.rows_of_waiting[stay_wall].append(name)
        for name in self.names[kept:][::-1]:
            self.mend(start, start, "</%s>" % name, rule)
        self.names = self.names[:kept]

    def push(self, name):
        self.names.append(name)
        if self.is_wall(name):
            self.rows_of_waiting[len(self.names)] = []

    def opening(self, start, stop, name):
        plan = self.weighed(name) if name in self.rows else ("drop", "strange")
        if plan[0] == "drop":
            self.mend(start, stop, "", plan[1])
            return
        self.cut(plan[1], start, "shut", plan[1])
        for put in plan[2][:-1]:
            self.mend(start, start, "<%s>" % put, "frame")
            self.push(put)
        self.out.append("<%s>" % name)
        if self.rows[name][1] != "bare":
            self.push(name)

    def close(self, start, stop, name):
        number = self.find(name)
        waiting = self.rows_of_waiting[self.wall(self.names)]
        if number is not None:
            if self.is_wall(name):
                # Nothing waits in what is closed, so none that is anew is looked at.
                for other in self.names[number + 1:][::-1]:
                    self.mend(start, start, "</%s>" % other, "left")
            else:
                self.cut(number + 1, start, "left", number)
            self.names = self.names[:number]
            self.out.append("</%s>" % name)
        elif name in waiting:
            waiting.reverse()
            waiting.remove(name)
            waiting.reverse()
            self.mend(start, stop, "", "late")
        else:
            self.mend(start, stop, "", "stray")

    def run(self, start, stop, signs):
        hosts = self.hosts_in(self.names)
        if hosts and set(signs) <= {" ", "\n"}:
            return self.mend(start, stop, "", "blank")
        if len(self.names) + len(hosts) > 20:
            return self.mend(start, stop, "", "deep")
        for host in hosts:
            self.mend(start, start, "<%s>" % host, "host")
            self.push(host)
        row = self.rows_of_waiting[self.wall(self.names)]
        while row:
            name = row.pop(0)
            if len(self.names) < 20 and not self.near(self.names) & {name, *self.rows[name][3], *self.rows[name][4]}:
                self.mend(start, start, "<%s>" % name, "anew")
                self.push(name)
        done = 0
        for found in re.finditer(r"<|&(?![la];)", signs):
            self.out.append(signs[done:found.start()])
            new = "&l;" if found.group() == "<" else "&a;"
            self.mend(start + found.start(), start + found.end(), new, "sign")
            done = found.end()
        self.out.append(signs[done:])


def strict_tree(text, bare):
    # Nothing is forgiven here: a text that needs a mend of any kind for its tags or signs does not come through.
    names = [""]
    parts = [[]]
    done = 0
    for found in re.finditer(r"<(/?)([a-z]{1,8})>|(&l;|&a;|[^<&])+", text):
        if found.start() != done:
            raise ValueError(text)
        done = found.end()
        if found.group(3):
            if parts[-1] and isinstance(parts[-1][-1], str):
                raise ValueError(text)
            parts[-1].append(re.sub("&.;", lambda told: {"&l;": "<", "&a;": "&"}[told.group()], found.group()))
            continue
        if not found.group(1):
            names.append(found.group(2))
            parts.append([])
        if found.group(1) or found.group(2) in bare:
            if names.pop() != found.group(2) or not names:
                raise ValueError(text)
            inner = tuple(parts.pop())
            parts[-1].append((found.group(2), inner))
    if done != len(text) or len(names) != 1:
        raise ValueError(text)
    return ("", tuple(parts[0]))
