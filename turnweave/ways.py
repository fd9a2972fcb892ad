"""Ways: which there are of a book, which are quiet, and from where to where they lead."""

from turnweave.books import LEFT, RIGHT, turning_of
from turnweave.errors import TooGreat
from turnweave.shapes import is_small
from turnweave.sides import blank_places, blanks, filled
from turnweave.texts import is_sign


def is_way(book, thing):
    return has_fitting_top(book, thing) and all([is_way(book, inner) for inner in thing[1:]])


def has_fitting_top(book, thing):
    turning = turning_of(book, thing[0])
    if turning is None:
        return is_sign(thing[0])
    return len(thing) - 1 == len(blanks(turning[LEFT]))


def is_quiet(way):
    return is_sign(way[0]) and all([is_quiet(inner) for inner in way[1:]])


def source(book, way):
    return only_small(with_sides(book, way, LEFT))


def goal(book, way):
    return only_small(with_sides(book, way, RIGHT))


def only_small(shape):
    if not is_small(shape):
        raise TooGreat("the shape is not small")
    return shape


# What is not small is refused only when the whole is made: a part that isn't may yet be dropped.
def with_sides(book, way, side):
    parts = [with_sides(book, inner, side) for inner in way[1:]]
    turning = turning_of(book, way[0])
    if turning is None:
        return (way[0],) + tuple(parts)
    return filled(turning[side], parts)


def part_places(book, way):
    """The places of the way's source at which the sources of its parts stand."""
    turning = turning_of(book, way[0])
    if turning is None:
        return [(number,) for number in range(len(way) - 1)]
    return blank_places(turning[LEFT])
