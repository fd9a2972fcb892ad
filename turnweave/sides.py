"""Sides: their blanks, how they are filled and matched, and which of them meet."""

from turnweave.shapes import part, places


def blank_places(side):
    return [place for place in places(side) if isinstance(part(side, place), int)]


def blanks(side):
    return [part(side, place) for place in blank_places(side)]


def places_of_blank(side, number):
    return [place for place in blank_places(side) if part(side, place) == number]


def filled(side, things):
    if isinstance(side, int):
        return things[side]
    return (side[0],) + tuple([filled(inner, things) for inner in side[1:]])


def matched(left, t):
    things = []
    if gather_matched(left, t, things):
        return things
    return None


# The blanks of a LEFT are 0, 1, 2 and so on from left to right, so blank n is the n-th that comes.
def gather_matched(left, t, things):
    if isinstance(left, int):
        things.append(t)
        return True
    if not have_one_top(left, t):
        return False
    for inner, thing in zip(left[1:], t[1:]):
        if not gather_matched(inner, thing, things):
            return False
    return True


# No blank stands twice in a side, so each part can be filled without a look at the others.
def meet(one, other):
    if isinstance(one, int) or isinstance(other, int):
        return True
    return have_one_top(one, other) and all([meet(mine, yours) for mine, yours in zip(one[1:], other[1:])])


def have_one_top(one, other):
    return one[0] == other[0] and len(one) == len(other)
