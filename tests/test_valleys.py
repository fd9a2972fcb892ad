import itertools
import unittest

from asking import check_own
from samples import CUTTING, MIXED, SHAPES, SIZES, chance_of, random_way
from things import chain, flat
from turnweave.errors import Apart, TooGreat, TurnError
from turnweave.roads import end, is_road, road_behind
from turnweave.shapes import is_small
from turnweave.texts import read_way
from turnweave.valleys import valley
from turnweave.ways import goal, source


def winding(*steps):
    """Steps of texts: '+' and a way that leads on, or '-' and a way that leads back."""
    return [(read_way(step[1:]), step[0] == "+") for step in steps]


def road(shape, *ways):
    return (read_way(shape), [read_way(way) for way in ways])


def valley_by_point_26(book, shape, steps):
    """The valley by the document's own words, moved road by road."""
    first = (shape, [])
    second = (shape, [])
    here = shape
    for way, on in steps:
        if on:
            alone = (here, [way])
            first = (shape, first[1] + road_behind(book, alone, second)[1])
            second = road_behind(book, second, alone)
            here = goal(book, way)
        else:
            here = source(book, way)
            second = (here, [way] + second[1])
    return (first, second)


def random_back(chance, shape):
    """A way of MIXED whose goal is this shape."""
    if chance.randrange(3):
        if shape == ("b",):
            return ("Low",)
        if shape == ("g", ("c",)):
            return ("Grow",)
        if shape[0] == "f" and len(shape) == 3 and shape[1] == shape[2]:
            return ("Twice", random_back(chance, shape[1]))
        if shape[0] == "t" and len(shape) == 3:
            return ("Swap", random_back(chance, shape[2]), random_back(chance, shape[1]))
        if chance.randrange(8) == 0:
            return ("Drop", ("a",), random_back(chance, shape))
    return (shape[0],) + tuple(random_back(chance, one) for one in shape[1:])


def random_winding(chance, shape, count):
    steps = []
    here = shape
    for _ in range(count):
        on = chance.randrange(2) == 0
        way = random_way(chance, MIXED, here) if on else random_back(chance, here)
        here = goal(MIXED, way) if on else source(MIXED, way)
        steps.append((way, on))
    return steps, here


class ValleyTest(unittest.TestCase):
    def check(self, shape, steps, first, second):
        with self.subTest(shape=shape, steps=steps):
            found = check_own(self, valley, MIXED, read_way(shape), winding(*steps))
            self.assertEqual(found, (first, second))
            self.assertIs(type(found), tuple)

    def test_no_steps(self):
        for shape in SHAPES:
            self.assertEqual(check_own(self, valley, MIXED, shape, []), ((shape, []), (shape, [])))

    def test_one_step(self):
        self.check("a", ["+Low"], road("a", "Low"), road("b"))
        self.check("b", ["-Low"], road("b"), road("a", "Low"))
        self.check("a", ["+a"], road("a", "a"), road("a"))
        self.check("a", ["-a"], road("a"), road("a", "a"))

    def test_on_and_on(self):
        self.check("g(a)", ["+g(Low)", "+Twice(b)"], road("g(a)", "g(Low)", "Twice(b)"), road("f(b,b)"))

    def test_back_and_back(self):
        self.check("f(b,b)", ["-Twice(b)", "-g(Low)"], road("f(b,b)"), road("g(a)", "g(Low)", "Twice(b)"))

    def test_on_and_back(self):
        self.check("a", ["+Low", "-Low"], road("a", "Low"), road("a", "Low"))
        self.check("g(a)", ["+g(Low)", "-g(Low)"], road("g(a)", "g(Low)"), road("g(a)", "g(Low)"))

    def test_back_and_on(self):
        self.check("b", ["-Low", "+Low"], road("b", "b"), road("b", "b"))
        self.check("g(b)", ["-g(Low)", "+Twice(a)"], road("g(b)", "Twice(b)"), road("f(a,a)", "f(Low,Low)"))
        self.check("f(a,a)", ["-Twice(a)", "+g(Low)"], road("f(a,a)", "f(Low,Low)"), road("g(b)", "Twice(b)"))

    def test_mixed(self):
        self.check(
            "g(b)", ["-g(Low)", "+Twice(a)", "+f(a,Low)", "-f(a,Low)"],
            road("g(b)", "Twice(b)", "f(b,b)"), road("f(a,a)", "f(a,Low)", "f(Low,b)"),
        )
        self.check(
            "t(b,g(b))", ["-Swap(g(b),Low)", "-s(g(Low),m(a))", "+Swap(g(a),a)", "+t(a,Twice(a))"],
            road("t(b,g(b))", "t(b,g(b))", "t(b,Twice(b))"), road("t(a,f(a,a))", "t(a,f(Low,Low))", "t(Low,f(b,b))"),
        )

    def test_at_random(self):
        chance = chance_of(20)
        told = 0
        for shape, count in itertools.product(SHAPES, (1, 2, 3, 5, 8, 12)):
            try:
                steps, last = random_winding(chance, shape, count)
                expected = valley_by_point_26(MIXED, shape, steps)
            except TooGreat:
                continue
            found = check_own(self, valley, MIXED, shape, steps)
            self.assertEqual(found, expected)
            self.check_valley(found, shape, last, steps)
            told += 1
        self.assertGreater(told, 80)

    def check_valley(self, found, shape, last, steps):
        first, second = found
        self.assertEqual((first[0], second[0]), (shape, last))
        self.assertTrue(is_road(MIXED, first) and is_road(MIXED, second))
        self.assertEqual(end(MIXED, first), end(MIXED, second))
        self.assertEqual(len(first[1]), len([way for way, on in steps if on]))
        self.assertEqual(len(second[1]), len([way for way, on in steps if not on]))

    def test_twelve_steps(self):
        steps = winding(*["+Low", "-Low"] * 6)
        first, second = valley(MIXED, ("a",), steps)
        self.assertEqual((len(first[1]), len(second[1])), (6, 6))
        self.assertEqual(end(MIXED, first), end(MIXED, second))


class RefusedTest(unittest.TestCase):
    def check_refused(self, kind, book, shape, steps):
        with self.subTest(shape=shape, steps=steps):
            before = repr(steps)
            with self.assertRaises(kind):
                valley(book, shape, steps)
            with self.assertRaises(TurnError):
                valley(book, shape, steps)
            self.assertEqual(repr(steps), before)

    def test_too_great_source(self):
        for great in (("Down", flat(399)), ("Down", chain(39))):
            self.assertTrue(is_small(goal(SIZES, great)))
            self.check_refused(TooGreat, SIZES, goal(SIZES, great), [(great, False)])
            self.check_refused(TooGreat, SIZES, ("a",), [(great, False)])
            self.check_refused(TooGreat, SIZES, ("a",), [(great, True)])
        fitting = ("Down", flat(398))
        self.assertEqual(
            valley(SIZES, goal(SIZES, fitting), [(fitting, False)]),
            ((goal(SIZES, fitting), []), (source(SIZES, fitting), [fitting])),
        )

    def test_too_great_goal(self):
        for great in (("Up", flat(399)), ("Up", chain(39))):
            self.assertTrue(is_small(source(SIZES, great)))
            self.check_refused(TooGreat, SIZES, source(SIZES, great), [(great, True)])
            self.check_refused(TooGreat, SIZES, ("a",), [(great, True)])
            self.check_refused(TooGreat, SIZES, ("a",), [(great, False)])
        fitting = ("Up", flat(398))
        self.assertEqual(
            valley(SIZES, source(SIZES, fitting), [(fitting, True)]),
            ((source(SIZES, fitting), [fitting]), (goal(SIZES, fitting), [])),
        )

    def test_apart(self):
        self.check_refused(Apart, MIXED, ("b",), winding("+Low"))
        self.check_refused(Apart, MIXED, ("a",), winding("-Low"))
        self.check_refused(Apart, MIXED, ("a",), winding("+b"))
        self.check_refused(Apart, MIXED, ("a",), winding("-b"))
        self.check_refused(Apart, MIXED, ("a",), winding("+Low", "+Low"))
        self.check_refused(Apart, MIXED, ("a",), winding("+Low", "-Low", "-Low"))
        self.check_refused(Apart, MIXED, ("b",), winding("-Low", "-Low"))
        self.check_refused(Apart, MIXED, ("b",), winding("-Low", "+b"))

    def test_the_moving(self):
        inner = ("x",) + (("y",),) * 20
        big = ("x",) + (("Big",),) * 20
        shape = ("g", inner)
        steps = [(("g", big), False), (("Twice", inner), True)]
        self.check_refused(TooGreat, CUTTING, goal(CUTTING, ("g", big)), steps)
        self.assertEqual(len(valley(CUTTING, goal(CUTTING, ("g", big)), steps[:1])[1][1]), 1)
        self.check_refused(TooGreat, CUTTING, goal(CUTTING, ("g", big)), steps + [(("a",), True)])
        self.assertEqual(source(CUTTING, ("g", big)), shape)

    def test_the_first_step_that_is_due(self):
        great = ("Up", flat(399))
        self.check_refused(TooGreat, SIZES, source(SIZES, great), [(great, True), (("a",), True)])
        self.check_refused(Apart, SIZES, source(SIZES, great), [(("a",), True), (great, True)])
        self.check_refused(Apart, SIZES, ("b",), [(("a",), False), (great, False)])
        inner = ("x",) + (("y",),) * 20
        big = ("x",) + (("Big",),) * 20
        steps = [(("g", big), False), (("a",), True), (("Twice", inner), True)]
        self.check_refused(Apart, CUTTING, goal(CUTTING, ("g", big)), steps)


if __name__ == "__main__":
    unittest.main()
