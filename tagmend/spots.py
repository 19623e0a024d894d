"""Spots: where in the tree a sign of a text stands, and which signs of the text tell one in the tree."""

from tagmend.errors import NoSpot
from tagmend.reading import reader_of
from tagmend.signs import sources_in


def spot_of(book, text, number):
    if not 0 <= number < len(text):
        raise NoSpot("the text has no sign of this number")
    for start, stop, place, told in told_signs(book, text):
        if start <= number < stop:
            return (place, told)
    return None


def source_of(book, text, place, number):
    for start, stop, told_place, told in told_signs(book, text):
        if told_place == place and told == number:
            return (start, stop)
    raise NoSpot("no sign of the text is told at this spot")


def told_signs(book, text):
    # For each sign of the tree's texts, from where to where it is told, its place and its number there.
    signs = []
    for first, run, place, ahead in reader_of(book, text).laid:
        for number, source in enumerate(sources_in(run)):
            signs.append((first + source[0], first + source[1], place, ahead + number))
    return signs
