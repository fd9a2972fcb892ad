"""Rests: rounds of full ways from a shape, until no use is open."""

from turnweave.uses import full_way, open_uses
from turnweave.ways import goal


def rounds(book, shape, limit):
    ways = []
    here = shape
    while len(ways) < limit and open_uses(book, here):
        way = full_way(book, here)
        here = goal(book, way)
        ways.append(way)
    return ((shape, ways), not open_uses(book, here))
