"""Single ways: roads of them, a way laid out as a row of them, and how few and how many a way can need."""

from turnweave.books import RIGHT, turning_of
from turnweave.sides import blanks
from turnweave.uses import way_of
from turnweave.ways import goal, part_places


def road_of(book, shape, places):
    ways = []
    here = shape
    for place in places:
        single = way_of(book, here, [place])
        here = goal(book, single)
        ways.append(single)
    return (shape, ways)


def laid_out(book, way):
    found = []
    gather_inner_first(book, way, (), found)
    return found


def gather_inner_first(book, way, place, found):
    for spot, inner in zip(part_places(book, way), way[1:]):
        gather_inner_first(book, inner, place + spot, found)
    if turning_of(book, way[0]) is not None:
        found.append(place)


# The top is done behind what RIGHT keeps, so nothing is done twice, and ahead of what RIGHT drops.
def fewest(book, way):
    turning = turning_of(book, way[0])
    if turning is None:
        return sum([fewest(book, inner) for inner in way[1:]])
    kept = blanks(turning[RIGHT])
    return 1 + sum([fewest(book, inner) for number, inner in enumerate(way[1:]) if number in kept])


# The top is done ahead of what RIGHT has several times, so each of these is done, and behind what RIGHT drops.
def most(book, way):
    turning = turning_of(book, way[0])
    if turning is None:
        return sum([most(book, inner) for inner in way[1:]])
    kept = blanks(turning[RIGHT])
    return 1 + sum([max(1, kept.count(number)) * most(book, inner) for number, inner in enumerate(way[1:])])
