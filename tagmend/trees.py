"""Trees: what stands at a place, which places there are, and which trees are open at one."""

from tagmend.books import is_wall
from tagmend.errors import NoPlace

ROOT_NAME = ""


def is_text(part):
    return isinstance(part, str)


def name_of(tree):
    return tree[0]


def parts_of(part):
    # A text has none: so no place leads into it.
    return () if is_text(part) else part[1]


def part_at(tree, place):
    return way_to(tree, place)[-1]


def names_above(tree, place):
    return tuple([name_of(above) for above in way_to(tree, place)[1:-1]])


def way_to(tree, place):
    # What stands at each step of the way, from the root to what is at the place, both among them.
    way = [tree]
    for number in place:
        parts = parts_of(way[-1])
        # A number below 0 would be counted from the end.
        if not 0 <= number < len(parts):
            raise NoPlace("the place leads nowhere")
        way.append(parts[number])
    return way


def places_in(tree):
    return [place for place, part in placed_parts(tree)]


def text_of(tree):
    return "".join([part for place, part in placed_parts(tree) if is_text(part)])


def levels_of(tree):
    return max([len(place) for place, part in placed_parts(tree) if not is_text(part)])


def placed_parts(tree):
    # Each place with what stands there, in the order of the places.
    placed = []
    ahead = [((), tree)]
    while len(ahead) > 0:
        step = ahead.pop()
        placed.append(step)
        ahead.extend(steps_below(step[0], step[1]))
    return placed


def steps_below(place, part):
    # The last part first: the walk takes what it was given last.
    parts = parts_of(part)
    return [(place + (number,), parts[number]) for number in range(len(parts) - 1, -1, -1)]


def straight_above(names):
    # The root is never among the open ones: it is the last one where there is no other.
    return names[-1] if len(names) > 0 else ROOT_NAME


def near_of(book, names):
    start = 0
    for number, name in enumerate(names):
        if is_wall(book, name):
            start = number + 1
    return tuple(names[start:])
