"""The standard row of a road: one row of places for all roads that are alike."""

from turnweave.books import LEFT, RIGHT, turning_of
from turnweave.errors import TooGreat
from turnweave.roads import are_quiet, road_behind
from turnweave.sides import blank_places, places_of_blank
from turnweave.uses import open_uses, places_of, way_with

MOST_PLACES = 60


def standard(book, road):
    row = []
    left = road
    while not are_quiet(left[1]):
        if len(row) == MOST_PLACES:
            raise TooGreat("the standard row is too long")
        place = first_place(book, left)
        row.append(place)
        left = road_behind(book, left, (left[0], [way_with(book, left[0], [place])]))
    return row


# There is such a place: each use of the first way that isn't quiet is open at the road's shape, and is done by it.
def first_place(book, road):
    for place in places_of(open_uses(book, road[0])):
        if is_done(book, place, road[1]):
            return place
    return None


# The one use is followed by its places; to move its whole single way, for each open use, would take far longer.
def is_done(book, place, ways):
    left = [place]
    for way in ways:
        left = still_at(book, way, left)
    return left == []


def still_at(book, way, spots):
    """The places in the way's goal of what is left, behind the way, of the uses at these places of its source."""
    found = []
    for place in spots:
        found.extend(left_of_use(book, way, place))
    return found


def left_of_use(book, way, place):
    turning = turning_of(book, way[0])
    if turning is not None:
        return left_below(book, way, place, turning)
    if place == ():
        return [()]
    number = place[0]
    return [(number,) + rest for rest in left_of_use(book, way[number + 1], place[1:])]


# The use at the top is in no blank of LEFT, so nothing is left of it.
def left_below(book, way, place, turning):
    found = []
    for number, spot in enumerate(blank_places(turning[LEFT])):
        if place[:len(spot)] == spot:
            rests = left_of_use(book, way[number + 1], place[len(spot):])
            for before in places_of_blank(turning[RIGHT], number):
                found.extend([before + rest for rest in rests])
    return found
