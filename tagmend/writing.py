"""Writing: a tree as the text that is read to it, and a text with its mends done."""

from tagmend.books import sort_of
from tagmend.signs import escaped
from tagmend.tokens import closing_of, opening_of
from tagmend.trees import is_text, name_of, parts_of


def written(book, tree):
    pieces = []
    # What is yet to be written, the last of it first: texts stand there as they are written, trees as they are.
    ahead = to_write(parts_of(tree))
    while len(ahead) > 0:
        step = ahead.pop()
        if is_text(step):
            pieces.append(step)
        else:
            pieces.append(opening_of(name_of(step)))
            ahead.extend(behind_opening(book, step))
    return "".join(pieces)


def to_write(parts):
    return [escaped(part) if is_text(part) else part for part in reversed(parts)]


def behind_opening(book, tree):
    if sort_of(book, name_of(tree)) == "bare":
        return []
    return [closing_of(name_of(tree))] + to_write(parts_of(tree))


def mended(text, mends):
    pieces = []
    done = 0
    for start, stop, new, rule in mends:
        pieces.append(text[done:start])
        pieces.append(new)
        done = stop
    pieces.append(text[done:])
    return "".join(pieces)
