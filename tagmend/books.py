"""Books: what a name, a row and a book are, and what a book tells of its names."""

SORTS = ("bare", "plain", "anew", "room", "frame")
HOST_SORTS = ("plain", "frame")
SHUT_OR_BARRED_SORTS = ("plain", "anew")
WALL_SORTS = ("room", "frame")
KEYWORDS = ("shuts", "bars")
LONGEST_NAME = 8
MOST_ROWS = 12

# Where in a row each thing stands.
NAME = 0
SORT = 1
HOST = 2
SHUTS = 3
BARS = 4


def is_name(word):
    return has_letters_of_name(word) and word not in KEYWORDS


def has_letters_of_name(word):
    # A text's openings and closings ask no more of a name than this: the keywords may stand there.
    return 1 <= len(word) <= LONGEST_NAME and all(["a" <= sign <= "z" for sign in word])


def is_rising(names):
    return all([left < right for left, right in zip(names, names[1:])])


def has_form(row):
    # Shuts and bars are not weighed here: what stands there is measured against the names of all rows.
    if not is_name(row[NAME]) or row[SORT] not in SORTS:
        return False
    return is_name(row[HOST]) if row[SORT] == "frame" else row[HOST] == ""


def is_book(rows):
    if len(rows) > MOST_ROWS or not all([has_form(row) for row in rows]):
        return False
    return first_misfit(rows) is None


def row_of(rows, name):
    for row in rows:
        if row[NAME] == name:
            return row
    return None


def sort_of(book, name):
    row = row_of(book, name)
    return None if row is None else row[SORT]


def is_wall(book, name):
    return sort_of(book, name) in WALL_SORTS


def host_of(book, name):
    row = row_of(book, name)
    if row is None or row[SORT] != "frame":
        return None
    return row[HOST]


def frame_of(book, name):
    for row in book:
        # Other rows have no host: the text without signs is the name of none.
        if row[SORT] == "frame" and row[HOST] == name:
            return row[NAME]
    return None


def belongs(book, name, frame):
    above = frame_of(book, name)
    while above is not None:
        if above == frame:
            return True
        above = frame_of(book, above)
    return False


def first_misfit(rows):
    # A number, not True or False: who reads a book's text is told which row is at fault.
    counted = first_rows(rows)
    for number, row in enumerate(rows):
        told_before = row_of(rows[:number], row[NAME]) is not None
        if told_before or not fits(counted, row):
            return number
    return None


def first_rows(rows):
    # A later row of a name counts for nothing when the other rows are weighed.
    counted = []
    for row in rows:
        if row_of(counted, row[NAME]) is None:
            counted.append(row)
    return counted


def fits(rows, row):
    return host_fits(rows, row) and shuts_fit(rows, row) and bars_fit(rows, row)


def host_fits(rows, row):
    if row[SORT] != "frame":
        return True
    if sort_of(rows, row[HOST]) not in HOST_SORTS or comes_back(rows, row[NAME]):
        return False
    # Of two frames with one host the earlier one has it, so only the later one is at fault.
    return frame_of(rows, row[HOST]) == row[NAME]


def comes_back(rows, name):
    host = host_of(rows, name)
    # The way may run into a ring of other frames and have no end: it is gone no further than there are rows.
    for step in range(len(rows)):
        if host == name:
            return True
        host = host_of(rows, host)
    return False


def shuts_fit(rows, row):
    if len(row[SHUTS]) > 0 and frame_of(rows, row[NAME]) is not None:
        return False
    hosts = [name for name in row[SHUTS] if frame_of(rows, name) is not None]
    return len(hosts) == 0 and may_be_named(rows, row[SHUTS])


def bars_fit(rows, row):
    return may_be_named(rows, row[BARS])


def may_be_named(rows, names):
    return is_rising(names) and all([sort_of(rows, name) in SHUT_OR_BARRED_SORTS for name in names])
