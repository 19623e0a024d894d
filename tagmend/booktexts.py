"""Books read from texts, and shown as texts."""

from tagmend.books import BARS, HOST, MOST_ROWS, NAME, SHUTS, SORT, SORTS, first_misfit, is_name
from tagmend.errors import NoBook, NoText


def read_book(text):
    if not isinstance(text, str):
        raise NoText(0)
    # Cut at its line ends, the text without signs would be one empty row; it tells no row at all.
    rows = [] if text == "" else read_rows(text)
    misfit = first_misfit(rows)
    if misfit is not None:
        raise NoBook(misfit)
    return tuple(rows)


def read_rows(text):
    rows = []
    for number, line in enumerate(text.split("\n")):
        row = read_row(line.split(" "))
        if row is None or number >= MOST_ROWS:
            raise NoText(number)
        rows.append(row)
    return rows


def read_row(words):
    # None where the words are not of the form.
    if len(words) < 2 or not is_name(words[0]) or words[1] not in SORTS:
        return None
    host = ""
    start = 2
    if words[1] == "frame":
        if len(words) < 3 or not is_name(words[2]):
            return None
        host = words[2]
        start = 3
    shuts = names_behind("shuts", words[start:])
    start = start + words_for(shuts)
    bars = names_behind("bars", words[start:])
    if start + words_for(bars) != len(words):
        return None
    return (words[0], words[1], host, tuple(sorted(shuts)), tuple(sorted(bars)))


def names_behind(keyword, words):
    names = []
    if words[:1] == [keyword]:
        for word in words[1:]:
            if not is_name(word):
                break
            names.append(word)
    return names


def words_for(names):
    # A keyword without a name is not counted: so it is left over, and the row is refused.
    return 0 if len(names) == 0 else 1 + len(names)


def show_book(book):
    return "\n".join([show_row(row) for row in book])


def show_row(row):
    words = [row[NAME], row[SORT]]
    if row[SORT] == "frame":
        words.append(row[HOST])
    return " ".join(words + keyed("shuts", row[SHUTS]) + keyed("bars", row[BARS]))


def keyed(keyword, names):
    return [] if len(names) == 0 else [keyword] + sorted(names)
