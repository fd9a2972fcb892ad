"""Shapes, sides and ways: how heavy and how deep they are, and what stands at their places."""

from turnweave.errors import NoPlace

MOST_HEAVY = 400
MOST_DEEP = 40


def parts_of(t):
    if isinstance(t, int):
        return ()
    return t[1:]


# weight and depth walk without recursion: they are asked of things that are not small.
def weight(t):
    count = 0
    waiting = [t]
    while waiting:
        count += 1
        thing = waiting.pop()
        waiting.extend(parts_of(thing))
    return count


def depth(t):
    count = 0
    level = [t]
    while level:
        count += 1
        level = parts_of_all(level)
    return count


def parts_of_all(things):
    found = []
    for thing in things:
        found.extend(parts_of(thing))
    return found


# It stops as soon as it can tell: the goal of a way may be far too heavy to be walked through.
def is_small(t):
    heavy = 0
    deep = 0
    level = [t]
    while level:
        heavy += len(level)
        deep += 1
        if heavy > MOST_HEAVY or deep > MOST_DEEP:
            return False
        level = parts_of_all(level)
    return True


def places(t):
    found = []
    gather_places(t, (), found)
    return found


def gather_places(t, place, found):
    found.append(place)
    for number, inner in enumerate(parts_of(t)):
        gather_places(inner, place + (number,), found)


def part(t, place):
    thing = t
    for number in place:
        thing = numbered_part(thing, number)
    return thing


def with_part(t, place, other):
    if place == ():
        return other
    number = place[0]
    changed = with_part(numbered_part(t, number), place[1:], other)
    return t[:number + 1] + (changed,) + t[number + 2:]


def numbered_part(t, number):
    parts = parts_of(t)
    # Python would count a number below nought from the end.
    if number < 0 or number >= len(parts):
        raise NoPlace("there is no such place")
    return parts[number]
