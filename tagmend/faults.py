"""Faults: where a tree does not keep a book's rules, and which rule it is."""

from tagmend.books import BARS, SHUTS, frame_of, host_of, row_of, sort_of
from tagmend.trees import is_text, name_of, names_above, near_of, part_at, parts_of, places_in, straight_above

MOST_ABOVE = 19


def fault_of(book, tree):
    for place in places_in(tree):
        # The root has no fault itself.
        rule = None if place == () else fault_at(book, tree, place)
        if rule is not None:
            return (rule, place)
    return None


def fault_at(book, tree, place):
    part = part_at(tree, place)
    names = names_above(tree, place)
    if is_text(part):
        return text_fault(book, names, part, follows_text(tree, place))
    return tree_fault(book, names, part)


def follows_text(tree, place):
    number = place[-1]
    return number > 0 and is_text(part_at(tree, place[:-1] + (number - 1,)))


def text_fault(book, names, text, beside):
    if host_of(book, straight_above(names)) is not None:
        return "guest"
    if text == "":
        return "empty"
    return "beside" if beside else None


def tree_fault(book, names, tree):
    sort = sort_of(book, name_of(tree))
    if sort is None:
        return "strange"
    if sort == "bare" and len(parts_of(tree)) > 0:
        return "full"
    if len(names) > MOST_ABOVE:
        return "deep"
    return frame_fault(book, names, name_of(tree)) or near_fault(book, names, name_of(tree))


def frame_fault(book, names, name):
    above = straight_above(names)
    host = host_of(book, above)
    if host is not None and host != name:
        return "guest"
    frame = frame_of(book, name)
    if frame is not None and frame != above:
        return "lost"
    return None


def near_fault(book, names, name):
    row = row_of(book, name)
    near = near_of(book, names)
    if share_a_name(near, row[SHUTS]):
        return "shut"
    return "barred" if share_a_name(near, row[BARS]) else None


def share_a_name(names, others):
    return any([name in others for name in names])
