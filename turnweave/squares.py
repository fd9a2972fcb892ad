"""Squares: of two ways from one source one moved behind the other, both joined, and what they share."""

from turnweave.books import LEFT, RIGHT, turning_of
from turnweave.errors import Apart
from turnweave.sides import filled, matched
from turnweave.uses import places_of, uses, way_of
from turnweave.ways import goal, source


def behind(book, way, other):
    one_source(book, way, other)
    # The goal is made only to be refused where it isn't small.
    goal(book, other)
    return moved(book, way, other)


def joined(book, way, other):
    shape = one_source(book, way, other)
    return way_of(book, shape, places_of(uses(book, way)) + places_of(uses(book, other)))


def shared(book, way, other):
    shape = one_source(book, way, other)
    others = uses(book, other)
    return way_of(book, shape, places_of([use for use in uses(book, way) if use in others]))


def one_source(book, way, other):
    shape = source(book, way)
    if source(book, other) != shape:
        raise Apart("the ways have not the same source")
    return shape


# The ways have one source, so where one has a title on top the other has it too, or is its LEFT filled.
def moved(book, way, other):
    first = turning_of(book, way[0])
    second = turning_of(book, other[0])
    mine = way[1:]
    yours = other[1:]
    if first is None and second is not None:
        mine = matched(second[LEFT], way)
    if first is not None and second is None:
        yours = matched(first[LEFT], other)
    parts = [moved(book, inner, outer) for inner, outer in zip(mine, yours)]
    if second is None:
        return (way[0],) + tuple(parts)
    return filled(second[RIGHT], parts)
