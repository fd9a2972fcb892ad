"""Uses: those open in a shape, those of a way, and the way that has some of them."""

from turnweave.books import LEFT, turning_of
from turnweave.errors import NoUse
from turnweave.sides import matched
from turnweave.ways import part_places


def open_uses(book, shape):
    found = []
    gather_open(book, shape, (), found)
    return found


def gather_open(book, shape, place, found):
    turning = open_turning(book, shape)
    if turning is not None:
        found.append((place, turning[0]))
    for number, inner in enumerate(shape[1:]):
        gather_open(book, inner, place + (number,), found)


def open_turning(book, shape):
    for turning in book:
        if matched(turning[LEFT], shape) is not None:
            return turning
    return None


def uses(book, way):
    found = []
    gather_uses(book, way, (), found)
    return found


def gather_uses(book, way, place, found):
    if turning_of(book, way[0]) is not None:
        found.append((place, way[0]))
    for spot, inner in zip(part_places(book, way), way[1:]):
        gather_uses(book, inner, place + spot, found)


def places_of(pairs):
    return [pair[0] for pair in pairs]


def way_of(book, shape, places):
    known = places_of(open_uses(book, shape))
    for place in places:
        if place not in known:
            raise NoUse("no use is open at one of the places")
    return way_with(book, shape, places)


def full_way(book, shape):
    return way_with(book, shape, places_of(open_uses(book, shape)))


# A use is open at each of the places; this is looked at by those who ask.
def way_with(book, shape, places):
    return way_within(book, shape, (), dict([(place, True) for place in places]))


def way_within(book, shape, place, wanted):
    top = turned_top(book, shape) if place in wanted else shape
    parts = []
    for spot, inner in zip(part_places(book, top), top[1:]):
        parts.append(way_within(book, inner, place + spot, wanted))
    return (top[0],) + tuple(parts)


def turned_top(book, shape):
    """The way from the shape that has the use at its top alone."""
    turning = open_turning(book, shape)
    return (turning[0],) + tuple(matched(turning[LEFT], shape))
