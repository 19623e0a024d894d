"""Bits: texts and trees set into trees without a fault, taken out of them, put around others and lifted."""

from tagmend.errors import NoFit, NoPlace
from tagmend.faults import fault_of
from tagmend.trees import is_text, name_of, part_at, parts_of, way_to


def set_in(book, tree, place, bit):
    parts = parts_around(tree, place, 1)
    number = place[-1]
    return fitting(book, with_parts(tree, place[:-1], parts[:number] + (bit,) + parts[number:]))


def taken_out(book, tree, place):
    parts = parts_around(tree, place, 0)
    number = place[-1]
    return fitting(book, with_parts(tree, place[:-1], joined(parts[:number] + parts[number + 1:])))


def put_around(book, tree, place, stop, name):
    parts = parts_around(tree, place, 1)
    number = place[-1]
    if not number <= stop <= len(parts):
        raise NoPlace("no parts lie from the place up to the stop")
    around = (name, parts[number:stop])
    return fitting(book, with_parts(tree, place[:-1], parts[:number] + (around,) + parts[stop:]))


def lifted(book, tree, place):
    parts = parts_around(tree, place, 0)
    number = place[-1]
    if is_text(parts[number]):
        raise NoPlace("at the place stands a text, which has no parts")
    inner = parts_of(parts[number])
    return fitting(book, with_parts(tree, place[:-1], joined(parts[:number] + inner + parts[number + 1:])))


def parts_around(tree, place, beyond):
    # The parts among which the place lies; its last number may be as many beyond theirs as told.
    if len(place) == 0:
        raise NoPlace("the root lies among no parts")
    above = part_at(tree, place[:-1])
    if is_text(above) or not 0 <= place[-1] < len(parts_of(above)) + beyond:
        raise NoPlace("the place leads nowhere")
    return parts_of(above)


def with_parts(tree, place, parts):
    # The whole tree, in which what is at the place has these parts instead of its own.
    way = way_to(tree, place)
    part = (name_of(way[-1]), parts)
    for level in range(len(place) - 1, -1, -1):
        number = place[level]
        beside = parts_of(way[level])
        part = (name_of(way[level]), beside[:number] + (part,) + beside[number + 1:])
    return part


def joined(parts):
    told = []
    for part in parts:
        if is_text(part) and len(told) > 0 and is_text(told[-1]):
            part = told.pop() + part
        told.append(part)
    return tuple(told)


def fitting(book, tree):
    fault = fault_of(book, tree)
    if fault is not None:
        raise NoFit(fault[0], fault[1])
    return tree
