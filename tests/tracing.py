"""Another way to tell what comes of ways: by places alone, each use followed to where it then stands."""

from turnweave.shapes import part, places
from turnweave.texts import is_title
from turnweave.uses import uses, way_of
from turnweave.ways import goal, source


def turning_by(book, title):
    return [turning for turning in book if turning[0] == title][0]


def spots_of(side, number):
    return [place for place in places(side) if part(side, place) == number and isinstance(part(side, place), int)]


def sources_and_goals(book, way):
    """The way's source and goal, told head by head."""
    inner = [sources_and_goals(book, one) for one in way[1:]]
    if not is_title(way[0]):
        return tuple((way[0],) + tuple(pair[side] for pair in inner) for side in range(2))
    turning = turning_by(book, way[0])
    return tuple(put_in(turning[side + 1], [pair[side] for pair in inner]) for side in range(2))


def put_in(side, things):
    if isinstance(side, int):
        return things[side]
    return (side[0],) + tuple(put_in(one, things) for one in side[1:])


def still_at(book, way, place):
    """The places of the way's goal at which the use at this place of its source stands, and is not yet done."""
    if is_title(way[0]):
        if place == ():
            return []
        _, left, right = turning_by(book, way[0])
        for number, inner in enumerate(way[1:]):
            for spot in spots_of(left, number):
                if place[:len(spot)] == spot:
                    rests = still_at(book, inner, place[len(spot):])
                    return [before + rest for before in spots_of(right, number) for rest in rests]
        raise AssertionError("two uses overlap")
    if place == ():
        return [()]
    return [(place[0],) + rest for rest in still_at(book, way[place[0] + 1], place[1:])]


def places_behind(book, spots, way):
    return sorted(rest for place in spots for rest in still_at(book, way, place))


def use_places(book, way):
    return [place for place, _ in uses(book, way)]


def traced_behind(book, way, other):
    """The first way behind the second one: the way from the second one's goal with what is left of the first's uses."""
    return way_of(book, goal(book, other), places_behind(book, use_places(book, way), other))


def one_step(book, way, place):
    """A use of the way done as a single way, and what is left of the way behind it."""
    single = way_of(book, source(book, way), [place])
    return single, traced_behind(book, way, single)
