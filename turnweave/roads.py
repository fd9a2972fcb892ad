"""Roads: one way behind another, and the grid by which one road is moved behind another one."""

from turnweave.errors import Apart, TooGreat
from turnweave.squares import moved
from turnweave.ways import goal, is_quiet, only_small, source


def is_road(book, thing):
    try:
        return leads_on(book, thing)
    except TooGreat:
        return False


def leads_on(book, thing):
    here = only_small(thing[0])
    for way in thing[1]:
        if source(book, way) != here:
            return False
        here = goal(book, way)
    return True


def end(book, road):
    if not road[1]:
        return road[0]
    return goal(book, road[1][-1])


def grid(book, road, other):
    if road[0] != other[0]:
        raise Apart("the roads are not from one shape")
    only_small(road[0])
    check_goals(book, road[1])
    check_goals(book, other[1])
    downs = []
    row = list(other[1])
    overs = [row]
    for way in road[1]:
        line = moved_along(book, way, row)
        row = [moved(book, over, down) for over, down in zip(row, line)]
        downs.append(line)
        overs.append(row)
    return (downs, overs)


def moved_along(book, way, ways):
    """The way, and what it is behind each of the ways, one after the other."""
    line = [way]
    for over in ways:
        way_on = moved(book, line[-1], over)
        # Each corner is looked at as soon as it comes: beyond one that isn't small there may be no end of work.
        check_goals(book, [way_on])
        line.append(way_on)
    return line


def check_goals(book, ways):
    for way in ways:
        goal(book, way)


def road_behind(book, road, other):
    ways = last_downs(grid(book, road, other))
    return (end(book, other), ways)


def road_joined(book, road, other):
    overs = grid(book, road, other)[1]
    return (road[0], road[1] + overs[-1])


def within(book, road, other):
    return are_quiet(last_downs(grid(book, road, other)))


def alike(book, road, other):
    downs_and_overs = grid(book, road, other)
    return are_quiet(last_downs(downs_and_overs)) and are_quiet(downs_and_overs[1][-1])


def last_downs(downs_and_overs):
    return [line[-1] for line in downs_and_overs[0]]


def are_quiet(ways):
    return all([is_quiet(way) for way in ways])
