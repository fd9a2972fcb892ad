"""Turnings and books: what is a turning, where turnings clash, and which lists of them are books."""

from turnweave.errors import Clash, NoTurning
from turnweave.shapes import part, places, weight
from turnweave.sides import blanks, meet
from turnweave.texts import is_title

LEFT = 1
RIGHT = 2
MOST_TURNINGS = 8
MOST_HEAVY_SIDE = 12


def is_turning(thing):
    left = thing[LEFT]
    right = thing[RIGHT]
    if not is_title(thing[0]) or isinstance(left, int):
        return False
    if weight(left) > MOST_HEAVY_SIDE or weight(right) > MOST_HEAVY_SIDE:
        return False
    numbers = blanks(left)
    return numbers == list(range(len(numbers))) and all([number in numbers for number in blanks(right)])


def clash(turnings):
    for number in range(len(turnings)):
        found = clash_of(turnings, number)
        if found is not None:
            return found
    return None


def clash_of(turnings, number):
    left = turnings[number][LEFT]
    for place in places(left):
        thing = part(left, place)
        for other, turning in enumerate(turnings):
            itself = place == () and other == number
            if not isinstance(thing, int) and not itself and meet(thing, turning[LEFT]):
                return (number, other, place)
    return None


def book_of(turnings):
    if len(turnings) > MOST_TURNINGS:
        raise NoTurning("there are more turnings than a book holds")
    titles = []
    for turning in turnings:
        if not is_turning(turning):
            raise NoTurning("one of them is no turning")
        if turning[0] in titles:
            raise NoTurning("a title comes twice")
        titles.append(turning[0])
    if clash(turnings) is not None:
        raise Clash("a turning clashes with one")
    return list(turnings)


def turning_of(book, title):
    for turning in book:
        if turning[0] == title:
            return turning
    return None
