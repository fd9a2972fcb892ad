"""Books, shapes and ways that several tests are made with."""

import itertools
import random

from turnweave.books import book_of
from turnweave.errors import TooGreat
from turnweave.texts import read_turning, read_way
from turnweave.uses import open_uses, way_of
from turnweave.ways import goal


def book(*texts):
    return book_of([read_turning(text) for text in texts])


# RIGHT doubles, drops and exchanges; LEFT is nested, has blanks beside and below one another, or none at all.
MIXED = book(
    "Twice: g(?0) > f(?0,?0)",
    "Drop: k(?0,?1) > ?1",
    "Swap: s(?0,m(?1)) > t(?1,?0)",
    "Mix: u(h(?0,n),?1,?2) > v(?2,g(?0),?2)",
    "Low: a > b",
    "Grow: c > g(c)",
    "Pair: f(d,?0) > k(?0,g(?0))",
)
# One turning makes a shape heavier and deeper by one, the other one lighter and shallower by one.
SIZES = book("Up: d(?0) > e(e(?0))", "Down: i(j(?0)) > d(?0)")
WIDE = book("Wide: w(?0) > f(?0,?0,?0,?0,?0,?0,?0,?0,?0,?0,?0)", "Drop: k(?0,?1) > ?1")
# What one of them makes great another one cuts off again.
CUTTING = book("Twice: g(?0) > f(?0,?0)", "Cut: f(?0,?1) > ?0", "Up: d(?0) > e(e(?0))", "Big: y > x(z,z,z,z,z,z,z,z,z,z,z)")
COUNTS = {"f": 2, "g": 1, "k": 2, "s": 2, "m": 1, "u": 3, "h": 2, "n": 0, "a": 0, "b": 0, "c": 0, "d": 0}

SHAPES = [read_way(text) for text in (
    "a", "b", "f(a,b)", "g(a)", "g(g(c))", "k(a,c)", "k(g(a),g(k(a,c)))", "s(a,m(g(a)))", "s(g(a),m(s(c,m(a))))",
    "u(h(a,n),g(a),k(a,c))", "u(h(g(a),n),s(a,m(c)),g(a))", "f(d,g(a))", "f(d,f(d,c))", "g(f(d,k(a,a)))",
    "g(u(h(c,n),a,f(d,a)))", "h(f(g(a),g(c)),n)", "k(f(d,a),s(g(c),m(a)))", "f(f(a,c),f(d,g(g(a))))",
    "u(h(a),a,a)", "s(a,h(a,n))", "f(a,d)", "g(a,a)", "g(g(g(g(a))))", "k(k(a,k(c,a)),k(g(a),a))",
)]


def subsets(things):
    for count in range(len(things) + 1):
        yield from itertools.combinations(things, count)


def all_ways(book, shape):
    """All ways from the shape: one for each choice among its open uses."""
    spots = [place for place, _ in open_uses(book, shape)]
    return [way_of(book, shape, list(chosen)) for chosen in subsets(spots)]


def random_shape(chance, deep):
    signs = [sign for sign in sorted(COUNTS) if deep > 1 or COUNTS[sign] == 0]
    sign = chance.choice(signs)
    if chance.randrange(3) == 0 and deep > 3:
        return chance.choice((
            ("s", random_shape(chance, deep - 1), ("m", random_shape(chance, deep - 2))),
            ("u", ("h", random_shape(chance, deep - 2), ("n",))) + tuple(random_shape(chance, 2) for _ in range(2)),
            ("f", ("d",), random_shape(chance, deep - 1)),
        ))
    return (sign,) + tuple(random_shape(chance, deep - 1) for _ in range(COUNTS[sign]))


def random_way(chance, book, shape):
    spots = [place for place, _ in open_uses(book, shape)]
    return way_of(book, shape, [place for place in spots if chance.randrange(2)])


def chance_of(number):
    """A source of choices that makes the same ones on each run."""
    return random.Random(number)


def random_road(chance, book, shape, count):
    """A road of at most so many ways: it stops ahead of a goal that isn't small."""
    ways = []
    here = shape
    for _ in range(count):
        way = random_way(chance, book, here)
        try:
            here = goal(book, way)
        except TooGreat:
            break
        ways.append(way)
    return (shape, ways)


def all_roads(book, shape, count):
    """All roads of just so many ways from the shape."""
    if count == 0:
        return [(shape, [])]
    return [
        (shape, ways + [way])
        for _, ways in all_roads(book, shape, count - 1)
        for way in all_ways(book, goal(book, ways[-1]) if ways else shape)
    ]
