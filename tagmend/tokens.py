"""Tokens: a text cut into its openings, its closings and the runs around them."""

from tagmend.books import LONGEST_NAME, has_letters_of_name
from tagmend.signs import told_by

# What may still become an opening or a closing has at most so many signs: those of </ and of the longest name.
LONGEST_BEGUN = 10

# Where in a token each number stands.
START = 1
STOP = 2


def tokens_of(text):
    tokens = settled_tokens(text, 0, 0)
    settled = tokens[-1][STOP] if len(tokens) > 0 else 0
    return tokens + runs_between(text, settled, len(text))


def settled_tokens(text, settled, searched):
    # Those from number settled on, but for a run at the text's end; no opening or closing begins ahead of searched.
    tokens = []
    for tag in tags_from(text, searched):
        tokens.extend(runs_between(text, settled, tag[START]))
        tokens.append(tag)
        settled = tag[STOP]
    return tokens


def tags_from(text, searched):
    tags = []
    start = text.find("<", searched)
    while start >= 0:
        stop = tag_stop(text, start)
        if stop is None:
            start = text.find("<", start + 1)
        else:
            tags.append(tag_between(text, start, stop))
            start = text.find("<", stop)
    return tags


def name_start(text, start):
    return start + 2 if text.startswith("</", start) else start + 1


def tag_stop(text, start):
    # None where neither an opening nor a closing begins at this <.
    first = name_start(text, start)
    # An end that lies farther off than the longest name is not looked for: so no text is gone through again and again.
    end = text.find(">", first, first + LONGEST_NAME + 1)
    if end < 0 or not has_letters_of_name(text[first:end]):
        return None
    return end + 1


def tag_between(text, start, stop):
    first = name_start(text, start)
    kind = "open" if first == start + 1 else "close"
    return (kind, start, stop, text[first:stop - 1])


def runs_between(text, start, stop):
    # One run, or none where there is no sign.
    if start == stop:
        return []
    return [("run", start, stop, told_by(text[start:stop]))]


def opening_of(name):
    return f"<{name}>"


def closing_of(name):
    return f"</{name}>"
