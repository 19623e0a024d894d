"""Reports: what a text is read to and which mends it takes, told in rows."""

from tagmend.booktexts import read_book
from tagmend.reading import read_text
from tagmend.trees import is_text, levels_of, placed_parts, text_of


def report(book_text, text):
    told = read_text(read_book(book_text), text)
    rows = [head_row(told[0], len(told[1]))]
    for start, stop, new, rule in told[1]:
        rows.append(mend_row(start, stop, new, rule))
    return "\n".join(rows)


def head_row(tree, mends):
    # The root is among the trees, but is not counted.
    tags = len([place for place, part in placed_parts(tree) if not is_text(part)]) - 1
    signs = len(text_of(tree))
    levels = levels_of(tree)
    return f"tags {tags} signs {signs} levels {levels} mends {mends}"


def mend_row(start, stop, new, rule):
    row = f"{start} {stop} {rule}"
    return row if new == "" else f"{row} {new}"
