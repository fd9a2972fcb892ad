"""Valleys: two roads that close a winding there and back."""

from turnweave.errors import Apart
from turnweave.roads import grid, last_downs
from turnweave.ways import goal, source


def valley(book, shape, steps):
    first = (shape, [])
    second = (shape, [])
    for way, leads_on in steps:
        start = source(book, way)
        stop = goal(book, way)
        stands = start if leads_on else stop
        if stands != second[0]:
            raise Apart("a step does not stand where the winding stands")
        if leads_on:
            downs_and_overs = grid(book, (start, [way]), second)
            first = (shape, first[1] + last_downs(downs_and_overs))
            second = (stop, downs_and_overs[1][-1])
        else:
            second = (start, [way] + second[1])
    return (first, second)
