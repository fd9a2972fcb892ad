import itertools
import unittest

from asking import check_own
from samples import CUTTING, MIXED, SHAPES, SIZES, all_roads, all_ways, chance_of, random_road, random_shape
from things import chain, flat
from turnweave.errors import Apart, TooGreat, TurnError
from turnweave.roads import alike, end, grid, is_road, road_behind, road_joined, within
from turnweave.shapes import weight
from turnweave.squares import behind
from turnweave.texts import read_way
from turnweave.uses import uses
from turnweave.ways import goal, is_quiet, source

FOUR = (grid, road_behind, road_joined, within, alike)


def road(shape, *ways):
    return (read_way(shape), [read_way(way) for way in ways])


def corner(book, shape, downs, overs, at):
    """The corner by point 19: the source of what leads on from it, else the goal of what leads to it."""
    row, column = at
    if row < len(downs):
        return source(book, downs[row][column])
    if column < len(overs[0]):
        return source(book, overs[row][column])
    if downs:
        return goal(book, downs[-1][-1])
    return goal(book, overs[-1][-1]) if overs[0] else shape


class IsRoadTest(unittest.TestCase):
    def check(self, thing, expected, book=MIXED):
        with self.subTest(thing=thing):
            self.assertIs(check_own(self, is_road, book, thing), expected)

    def test_without_ways(self):
        for shape in SHAPES:
            self.check((shape, []), True)
        self.check((("a",), []), True, [])

    def test_roads(self):
        self.check(road("a", "Low"), True)
        self.check(road("a", "a", "Low", "b"), True)
        self.check(road("g(a)", "Twice(a)", "f(Low,a)", "f(b,Low)"), True)
        self.check(road("c", "Grow", "Twice(Grow)", "f(g(c),g(c))"), True)

    def test_another_source(self):
        self.check(road("b", "Low"), False)
        self.check(road("a", "Low", "Low"), False)
        self.check(road("a", "Low", "a"), False)
        self.check(road("g(a)", "g(Low)", "Twice(a)"), False)
        self.check(road("g(a)", "Twice(a)", "f(Low,b)"), False)
        self.check(road("a", "a", "b"), False)
        self.check(road("f(a)", "f(a,b)"), False)

    def test_what_is_not_small(self):
        self.check((("d", flat(399)), [("Up", flat(399))]), False, SIZES)
        self.check((("d", flat(398)), [("Up", flat(398))]), True, SIZES)
        self.check((("d", chain(39)), [("Up", chain(39))]), False, SIZES)
        self.check((("d", chain(38)), [("Up", chain(38))]), True, SIZES)
        self.check((("i", ("j", flat(399))), [("Down", flat(399))]), False, SIZES)
        self.check((("i", ("j", flat(398))), [("Down", flat(398))]), True, SIZES)
        self.check((("a",), [("Down", flat(399))]), False, SIZES)

    def test_a_shape_that_is_not_small(self):
        self.check((flat(401), []), False)
        self.check((chain(41), []), False)
        self.check((flat(400), []), True)
        self.check((chain(40), []), True)

    def test_a_goal_within_the_road_counts(self):
        great = ("x",) + (("y",),) * 20
        twice = ("f", great, great)
        bigger = ("f",) + (("x",) + (("Big",),) * 20,) * 2
        self.check((("g", great), [("Twice", great), bigger]), False, CUTTING)
        self.check((("g", great), [("Twice", great), ("Cut", great, great)]), True, CUTTING)
        self.check((("g", great), [("Twice", great), twice]), True, CUTTING)

    def test_more_than_twenty_ways(self):
        self.check((("a",), [("a",)] * 25), True)


class EndTest(unittest.TestCase):
    def test_without_ways(self):
        for shape in SHAPES:
            self.assertEqual(check_own(self, end, MIXED, (shape, [])), shape)

    def test_the_goal_of_the_last_way(self):
        self.assertEqual(check_own(self, end, MIXED, road("a", "Low")), ("b",))
        found = end(MIXED, road("g(a)", "Twice(a)", "f(Low,a)"))
        self.assertEqual(found, read_way("f(b,a)"))
        self.assertEqual(end(MIXED, road("a", "Low", "b")), ("b",))


class GridTest(unittest.TestCase):
    def check_grid(self, book, one, two):
        downs, overs = check_own(self, grid, book, one, two)
        rows = len(one[1])
        columns = len(two[1])
        self.assertEqual([len(line) for line in downs], [columns + 1] * rows)
        self.assertEqual([len(line) for line in overs], [columns] * (rows + 1))
        self.assertEqual([line[0] for line in downs], one[1])
        self.assertEqual(overs[0], two[1])
        for row, column in itertools.product(range(rows), range(columns)):
            down = downs[row][column]
            over = overs[row][column]
            self.assertEqual(downs[row][column + 1], behind(book, down, over))
            self.assertEqual(overs[row + 1][column], behind(book, over, down))
        for row, column in itertools.product(range(rows + 1), range(columns + 1)):
            here = corner(book, one[0], downs, overs, (row, column))
            if row < rows and column < columns:
                self.assertEqual(source(book, overs[row][column]), here)
        if rows and columns:
            self.assertEqual(goal(book, downs[-1][-1]), goal(book, overs[-1][-1]))
        return downs, overs

    def test_written_out(self):
        downs, overs = self.check_grid(MIXED, road("g(a)", "Twice(a)", "f(Low,a)"), road("g(a)", "g(Low)"))
        self.assertEqual(downs, [[read_way("Twice(a)"), read_way("Twice(b)")], [read_way("f(Low,a)"), read_way("f(b,b)")]])
        self.assertEqual(overs, [[read_way("g(Low)")], [read_way("f(Low,Low)")], [read_way("f(b,Low)")]])

    def test_kinds(self):
        found = grid(MIXED, road("a", "Low"), road("a"))
        self.assertIs(type(found), tuple)
        self.assertEqual([type(one) for one in found], [list, list])

    def test_nought_ways(self):
        self.assertEqual(self.check_grid(MIXED, road("a"), road("a")), ([], [[]]))
        self.assertEqual(self.check_grid(MIXED, road("a", "Low", "b"), road("a")), ([[("Low",)], [("b",)]], [[], [], []]))
        self.assertEqual(self.check_grid(MIXED, road("a"), road("a", "Low", "b")), ([], [[("Low",), ("b",)]]))

    def test_at_random(self):
        chance = chance_of(7)
        count = 0
        while count < 25:
            shape = random_shape(chance, 5)
            one = random_road(chance, MIXED, shape, chance.randrange(4))
            two = random_road(chance, MIXED, shape, chance.randrange(4))
            try:
                self.check_grid(MIXED, one, two)
                count += 1
            except TooGreat:
                pass

    def test_exchanged_it_is_the_same_the_other_way_round(self):
        chance = chance_of(8)
        for shape in SHAPES:
            one = random_road(chance, MIXED, shape, 2)
            two = random_road(chance, MIXED, shape, 3)
            downs, overs = grid(MIXED, one, two)
            other_downs, other_overs = grid(MIXED, two, one)
            self.assertEqual(other_downs, [[line[column] for line in overs] for column in range(len(two[1]))])
            self.assertEqual(other_overs, [[line[column] for line in downs] for column in range(len(two[1]) + 1)])

    def test_of_one_road_with_itself(self):
        one = road("g(a)", "Twice(a)", "f(Low,a)")
        downs, overs = self.check_grid(MIXED, one, one)
        self.assertTrue(all(is_quiet(line[-1]) for line in downs))
        self.assertTrue(all(is_quiet(way) for way in overs[-1]))


class RefusedTest(unittest.TestCase):
    def check_refused(self, kind, book, one, two):
        before = repr((one, two))
        for ask in FOUR:
            for first, second in ((one, two), (two, one)):
                with self.subTest(ask=ask.__name__):
                    with self.assertRaises(kind):
                        ask(book, first, second)
                    with self.assertRaises(TurnError):
                        ask(book, first, second)
        self.assertEqual(repr((one, two)), before)

    def test_apart(self):
        self.check_refused(Apart, MIXED, road("a"), road("b"))
        self.check_refused(Apart, MIXED, road("a", "Low"), road("b"))
        self.check_refused(Apart, MIXED, road("a", "Low"), road("c", "Grow"))
        self.check_refused(Apart, MIXED, road("f(a)"), road("f(a,a)"))

    def test_too_great_at_the_last_corner(self):
        shape = ("g", ("x",) + (("y",),) * 20)
        big = (shape, [("g", ("x",) + (("Big",),) * 20)])
        twice = (shape, [("Twice", shape[1])])
        self.assertEqual([weight(end(CUTTING, one)) for one in (big, twice)], [242, 43])
        self.check_refused(TooGreat, CUTTING, big, twice)

    def test_too_great_at_a_corner_within(self):
        inner = ("x",) + (("y",),) * 20
        shape = ("g", inner)
        big = (shape, [("g", ("x",) + (("Big",),) * 20)])
        cut = (shape, [("Twice", inner), ("Cut", inner, inner)])
        self.check_refused(TooGreat, CUTTING, big, cut)
        self.assertEqual(end(CUTTING, cut), inner)

    def test_400_and_401_heavy_at_a_corner(self):
        for extra, great in ((0, False), (1, True)):
            inner = ("d", flat(197))
            rest = (("a",),) * extra
            shape = ("h", ("g", inner)) + rest
            twice = (shape, [("h", ("Twice", inner)) + rest])
            raised = (shape, [("h", ("g", ("Up", flat(197)))) + rest])
            if great:
                self.check_refused(TooGreat, CUTTING, twice, raised)
            else:
                self.assertEqual(weight(end(CUTTING, road_joined(CUTTING, twice, raised))), 400)

    def test_40_and_41_deep_at_a_corner(self):
        for deep, great in ((36, False), (37, True)):
            # Each of both makes the shape deeper by one.
            shape = ("d", ("d", chain(deep)))
            one = (shape, [("Up", shape[1])])
            two = (shape, [("d", ("Up", chain(deep)))])
            if great:
                self.check_refused(TooGreat, CUTTING, one, two)
            else:
                self.assertEqual(end(CUTTING, road_behind(CUTTING, one, two)), chain(5, chain(deep), "e"))

    def test_a_shape_that_is_not_small(self):
        self.check_refused(TooGreat, MIXED, (flat(401), []), (flat(401), []))

    def test_an_edge_that_is_not_small(self):
        great = (("d", flat(399)), [("Up", flat(399))])
        self.check_refused(TooGreat, SIZES, great, (great[0], []))
        self.check_refused(TooGreat, SIZES, great, great)
        self.check_refused(Apart, SIZES, great, (("a",), []))


class RoadsTest(unittest.TestCase):
    def check(self, ask, one, two, expected):
        with self.subTest(ask=ask.__name__, one=one, two=two):
            self.assertEqual(check_own(self, ask, MIXED, one, two), expected)

    def test_behind(self):
        one = road("g(a)", "Twice(a)", "f(Low,a)")
        two = road("g(a)", "g(Low)")
        self.check(road_behind, one, two, road("g(b)", "Twice(b)", "f(b,b)"))
        self.check(road_behind, two, one, road("f(b,a)", "f(b,Low)"))
        self.check(road_behind, road("a"), road("a", "Low"), road("b"))
        self.check(road_behind, road("a", "Low"), road("a"), road("a", "Low"))
        self.check(road_behind, road("a"), road("a"), road("a"))

    def test_joined(self):
        one = road("g(a)", "Twice(a)", "f(Low,a)")
        two = road("g(a)", "g(Low)")
        self.check(road_joined, one, two, road("g(a)", "Twice(a)", "f(Low,a)", "f(b,Low)"))
        self.check(road_joined, two, one, road("g(a)", "g(Low)", "Twice(b)", "f(b,b)"))
        self.check(road_joined, road("a"), road("a", "Low"), road("a", "Low"))
        self.check(road_joined, road("a", "Low"), road("a"), road("a", "Low"))
        self.check(road_joined, road("a"), road("a"), road("a"))

    def test_within(self):
        one = road("g(a)", "Twice(a)", "f(Low,a)")
        two = road("g(a)", "g(Low)")
        whole = road("g(a)", "Twice(Low)")
        for first, second, expected in (
            (one, two, False), (two, one, False), (one, whole, True), (two, whole, True), (whole, one, False),
            (whole, two, False), (road("a"), road("a", "Low"), True), (road("a", "Low"), road("a"), False),
            (road("a", "a"), road("a"), True), (road("a"), road("a"), True),
        ):
            self.check(within, first, second, expected)

    def test_what_is_dropped_is_within(self):
        self.check(within, road("k(a,b)", "k(Low,b)"), road("k(a,b)", "Drop(a,b)"), True)
        self.check(within, road("k(a,b)", "Drop(a,b)"), road("k(a,b)", "k(Low,b)"), False)
        self.check(within, road("k(c,b)", "k(Grow,b)", "k(Twice(Grow),b)"), road("k(c,b)", "Drop(c,b)"), True)

    def test_alike(self):
        for first, second, expected in (
            (road("g(a)", "Twice(Low)"), road("g(a)", "g(Low)", "Twice(b)"), True),
            (road("g(a)", "Twice(Low)"), road("g(a)", "Twice(a)", "f(a,Low)", "f(Low,b)"), True),
            (road("g(a)", "Twice(a)", "f(Low,a)"), road("g(a)", "Twice(a)", "f(a,Low)"), False),
            (road("a", "Low"), road("a"), False), (road("a"), road("a", "Low"), False),
            (road("a"), road("a", "a", "a"), True), (road("a"), road("a"), True),
            (road("k(a,b)", "Drop(a,b)"), road("k(a,b)", "k(Low,b)", "Drop(b,b)"), True),
        ):
            self.check(alike, first, second, expected)

    def test_one_end_is_not_enough_to_be_alike(self):
        one = road("k(k(a,a),a)", "Drop(k(a,a),a)")
        two = road("k(k(a,a),a)", "k(Drop(a,a),a)")
        three = road("k(a,k(b,a))", "k(a,Drop(b,a))")
        four = road("k(a,k(b,a))", "Drop(a,k(b,a))")
        self.check(alike, one, two, False)
        self.check(alike, three, four, False)

    def test_both_come_to_one_end(self):
        chance = chance_of(9)
        for shape in SHAPES:
            one = random_road(chance, MIXED, shape, 2)
            two = random_road(chance, MIXED, shape, 3)
            left = road_behind(MIXED, one, two)
            right = road_behind(MIXED, two, one)
            self.assertEqual(left[0], end(MIXED, two))
            self.assertEqual(right[0], end(MIXED, one))
            self.assertEqual(end(MIXED, left), end(MIXED, right))
            both = road_joined(MIXED, one, two)
            self.assertTrue(is_road(MIXED, both) and is_road(MIXED, left) and is_road(MIXED, right))
            self.assertEqual(both, (shape, one[1] + right[1]))
            self.assertTrue(alike(MIXED, both, road_joined(MIXED, two, one)))
            self.assertIs(alike(MIXED, one, two), within(MIXED, one, two) and within(MIXED, two, one))
            self.assertIs(within(MIXED, one, two), all(uses(MIXED, way) == [] for way in left[1]))

    def test_the_cube(self):
        chance = chance_of(10)
        for shape in SHAPES:
            one, two, three = [random_road(chance, MIXED, shape, 2) for _ in range(3)]
            left = road_behind(MIXED, road_behind(MIXED, one, two), road_behind(MIXED, three, two))
            right = road_behind(MIXED, road_behind(MIXED, one, three), road_behind(MIXED, two, three))
            self.assertEqual(left, right)


class OrderTest(unittest.TestCase):
    def check_order(self, book, roads):
        inside = {}
        for (k, one), (j, two) in itertools.product(enumerate(roads), repeat=2):
            inside[k, j] = within(book, one, two)
        numbers = range(len(roads))
        for k in numbers:
            self.assertTrue(inside[k, k])
        for k, j, i in itertools.product(numbers, repeat=3):
            if inside[k, j] and inside[j, i]:
                self.assertTrue(inside[k, i])
        for k, j in itertools.product(numbers, repeat=2):
            if inside[k, j] and inside[j, k]:
                self.assertEqual(end(book, roads[k]), end(book, roads[j]))
            self.check_least(book, roads, inside, k, j)

    def check_least(self, book, roads, inside, k, j):
        both = road_joined(book, roads[k], roads[j])
        self.assertTrue(within(book, roads[k], both))
        self.assertTrue(within(book, roads[j], both))
        for number, third in enumerate(roads):
            if inside[k, number] and inside[j, number]:
                self.assertTrue(within(book, both, third))
            if within(book, both, third):
                self.assertTrue(inside[k, number] and inside[j, number])

    def test_single_steps_and_two_behind_one_another(self):
        for text in ("g(a)", "k(a,a)", "k(a,c)", "g(g(b))", "f(d,a)"):
            shape = read_way(text)
            roads = all_roads(MIXED, shape, 0) + all_roads(MIXED, shape, 1)
            roads += all_roads(MIXED, shape, 2)[::5]
            self.check_order(MIXED, roads[:12])

    def test_at_random(self):
        chance = chance_of(11)
        for shape in SHAPES[::4]:
            roads = [random_road(chance, MIXED, shape, chance.randrange(4)) for _ in range(6)]
            self.check_order(MIXED, roads)

    def test_of_ways_it_is_told_by_their_uses(self):
        # RIGHT keeps every blank and is no blank alone in this shape, so nothing is dropped.
        shape = read_way("s(g(a),m(g(c)))")
        for one, two in itertools.product(all_ways(MIXED, shape), repeat=2):
            expected = set(uses(MIXED, one)) <= set(uses(MIXED, two))
            self.assertIs(within(MIXED, (shape, [one]), (shape, [two])), expected)


if __name__ == "__main__":
    unittest.main()
