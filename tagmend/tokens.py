"""Tokens: a text cut into its openings, its closings and the runs around them."""

from tagmend.books import LONGEST_NAME, has_letters_of_name
from tagmend.signs import told_by


def tokens_of(text):
    tokens = []
    settled = 0
    start = text.find("<")
    while start >= 0:
        stop = tag_stop(text, start)
        if stop is None:
            start = text.find("<", start + 1)
        else:
            tokens.extend(runs_between(text, settled, start))
            tokens.append(tag_between(text, start, stop))
            settled = stop
            start = text.find("<", stop)
    tokens.extend(runs_between(text, settled, len(text)))
    return tokens


def name_start(text, start):
    return start + 2 if text.startswith("</", start) else start + 1


def tag_stop(text, start):
    # None where neither an opening nor a closing begins at this <.
    first = name_start(text, start)
    # An end that lies farther off than the longest name is not looked for: so no text is gone through again and again.
    end = text.find(">", first, first + LONGEST_NAME + 1)
    if end < 0 or not has_letters_of_name(text[first:end]):
        return None
    return end + 1


def tag_between(text, start, stop):
    first = name_start(text, start)
    kind = "open" if first == start + 1 else "close"
    return (kind, start, stop, text[first:stop - 1])


def runs_between(text, start, stop):
    # One run, or none where there is no sign.
    if start == stop:
        return []
    return [("run", start, stop, told_by(text[start:stop]))]


def opening_of(name):
    return f"<{name}>"


def closing_of(name):
    return f"</{name}>"
