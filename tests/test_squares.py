import itertools
import unittest

from asking import check_own
from samples import CUTTING, MIXED, SHAPES, SIZES, WIDE, all_ways, chance_of, random_shape, random_way
from things import chain, flat
from tracing import traced_behind
from turnweave.errors import Apart, TooGreat, TurnError
from turnweave.shapes import is_small, weight
from turnweave.squares import behind, joined, shared
from turnweave.texts import read_way
from turnweave.uses import full_way, open_uses, uses
from turnweave.ways import goal, is_quiet, is_way, source


def has_small_goal(book, way):
    try:
        goal(book, way)
    except TooGreat:
        return False
    return True


def some_ways(shape):
    """Ways from the shape with few uses, and some with many."""
    ways = all_ways(MIXED, shape)
    return ways if len(ways) <= 16 else ways[:8] + ways[-8:]


class BehindTest(unittest.TestCase):
    def check(self, way, other, expected):
        with self.subTest(way=way, other=other):
            self.assertEqual(check_own(self, behind, MIXED, read_way(way), read_way(other)), read_way(expected))

    def test_both_have_one_sign_on_top(self):
        self.check("a", "a", "a")
        self.check("x(Low,c)", "x(a,Grow)", "x(Low,g(c))")
        self.check("f(Low,Low)", "f(a,Low)", "f(Low,b)")

    def test_both_have_one_title_on_top(self):
        self.check("Low", "Low", "b")
        self.check("Twice(Low)", "Twice(a)", "f(Low,Low)")
        self.check("Twice(a)", "Twice(Low)", "f(b,b)")
        self.check("Drop(Low,c)", "Drop(a,c)", "c")
        self.check("Drop(a,Grow)", "Drop(a,c)", "Grow")
        self.check("Swap(Low,Grow)", "Swap(a,c)", "t(Grow,Low)")
        self.check("Mix(Low,a,Grow)", "Mix(a,Low,c)", "v(Grow,g(Low),Grow)")

    def test_the_first_has_a_title_on_top_and_the_second_none(self):
        self.check("Low", "a", "Low")
        self.check("Twice(a)", "g(Low)", "Twice(b)")
        self.check("Twice(Low)", "g(Low)", "Twice(b)")
        self.check("Swap(Low,c)", "s(a,m(Grow))", "Swap(Low,g(c))")
        self.check("Mix(a,c,Low)", "u(h(Low,n),Grow,a)", "Mix(b,g(c),Low)")

    def test_the_second_has_a_title_on_top_and_the_first_none(self):
        self.check("a", "Low", "b")
        self.check("g(Low)", "Twice(a)", "f(Low,Low)")
        self.check("g(Low)", "Twice(Low)", "f(b,b)")
        self.check("k(Low,c)", "Drop(a,Grow)", "g(c)")
        self.check("s(a,m(Grow))", "Swap(Low,c)", "t(Grow,b)")
        self.check("u(h(Low,n),Low,Low)", "Mix(a,a,a)", "v(Low,g(Low),Low)")

    def test_within_one_another(self):
        self.check("Twice(g(Low))", "g(Twice(a))", "Twice(f(Low,Low))")
        self.check("g(Twice(Low))", "Twice(g(a))", "f(Twice(Low),Twice(Low))")
        self.check("Twice(Twice(a))", "Twice(g(Low))", "f(Twice(b),Twice(b))")
        self.check("x(Drop(Low,g(Low)),s(a,m(Low)))", "x(k(a,Twice(a)),Swap(Low,a))", "x(Drop(Low,f(Low,Low)),t(Low,b))")
        self.check("Pair(s(Grow,m(a)))", "f(d,Swap(c,Low))", "Pair(t(b,Grow))")
        self.check("f(d,Swap(Grow,a))", "Pair(s(c,m(Low)))", "k(Swap(Grow,b),g(Swap(Grow,b)))")
        self.check("g(k(Low,Twice(a)))", "Twice(Drop(a,g(a)))", "f(Twice(a),Twice(a))")

    def test_a_new_use_is_not_taken_along(self):
        self.check("f(d,Low)", "Pair(a)", "k(Low,g(Low))")
        self.check("c", "Grow", "g(c)")

    def test_behind_itself(self):
        for shape in SHAPES:
            for way in all_ways(MIXED, shape):
                self.assertEqual(behind(MIXED, way, way), goal(MIXED, way))

    def test_behind_and_ahead_of_the_quiet_way(self):
        for shape in SHAPES:
            for way in all_ways(MIXED, shape):
                self.assertEqual(behind(MIXED, way, shape), way)
                self.assertEqual(behind(MIXED, shape, way), goal(MIXED, way))

    def test_every_square_closes(self):
        for shape in SHAPES:
            for way, other in itertools.product(some_ways(shape), repeat=2):
                first = behind(MIXED, way, other)
                second = behind(MIXED, other, way)
                self.assertTrue(is_way(MIXED, first))
                self.assertEqual(source(MIXED, first), goal(MIXED, other))
                self.assertEqual(goal(MIXED, first), goal(MIXED, second))

    def test_what_is_left_of_the_uses(self):
        for shape in SHAPES:
            for way, other in itertools.product(some_ways(shape), repeat=2):
                self.assertEqual(behind(MIXED, way, other), traced_behind(MIXED, way, other))

    def test_at_random(self):
        chance = chance_of(6)
        for _ in range(60):
            shape = random_shape(chance, 6)
            way = random_way(chance, MIXED, shape)
            other = random_way(chance, MIXED, shape)
            if has_small_goal(MIXED, other):
                self.assertEqual(behind(MIXED, way, other), traced_behind(MIXED, way, other))

    def test_the_cube(self):
        for shape in SHAPES:
            ways = all_ways(MIXED, shape)[1:6] + [full_way(MIXED, shape)]
            for one, two, three in itertools.product(ways, repeat=3):
                left = behind(MIXED, behind(MIXED, one, two), behind(MIXED, three, two))
                right = behind(MIXED, behind(MIXED, one, three), behind(MIXED, two, three))
                self.assertEqual(left, right)


class JoinedAndSharedTest(unittest.TestCase):
    def check(self, ask, way, other, expected):
        with self.subTest(way=way, other=other):
            self.assertEqual(check_own(self, ask, MIXED, read_way(way), read_way(other)), read_way(expected))

    def test_joined(self):
        self.check(joined, "x(Low,c)", "x(a,Grow)", "x(Low,Grow)")
        self.check(joined, "Twice(a)", "g(Low)", "Twice(Low)")
        self.check(joined, "g(Low)", "Twice(a)", "Twice(Low)")
        self.check(joined, "s(a,m(Grow))", "Swap(Low,c)", "Swap(Low,Grow)")
        self.check(joined, "Low", "Low", "Low")
        self.check(joined, "Low", "a", "Low")
        self.check(joined, "b", "b", "b")

    def test_shared(self):
        self.check(shared, "x(Low,c)", "x(a,Grow)", "x(a,c)")
        self.check(shared, "x(Low,Grow)", "x(a,Grow)", "x(a,Grow)")
        self.check(shared, "Twice(Low)", "g(Low)", "g(Low)")
        self.check(shared, "Twice(a)", "Twice(Low)", "Twice(a)")
        self.check(shared, "Low", "Low", "Low")
        self.check(shared, "a", "Low", "a")

    def test_by_their_uses(self):
        for shape in SHAPES:
            for way, other in itertools.product(some_ways(shape), repeat=2):
                mine = set(uses(MIXED, way))
                yours = set(uses(MIXED, other))
                for ask, expected in ((joined, mine | yours), (shared, mine & yours)):
                    found = ask(MIXED, way, other)
                    self.assertEqual(source(MIXED, found), shape)
                    self.assertEqual(uses(MIXED, found), sorted(expected))

    def test_joined_comes_to_the_end_of_the_square(self):
        for shape in SHAPES:
            for way, other in itertools.product(some_ways(shape), repeat=2):
                both = joined(MIXED, way, other)
                self.assertEqual(goal(MIXED, both), goal(MIXED, behind(MIXED, other, way)))
                self.assertTrue(is_quiet(behind(MIXED, way, both)))
                self.assertTrue(is_quiet(behind(MIXED, shared(MIXED, way, other), way)))

    def test_goals_are_not_looked_at(self):
        great = ("Up", flat(399))
        quiet = source(SIZES, great)
        self.assertEqual(joined(SIZES, great, quiet), great)
        self.assertEqual(joined(SIZES, quiet, great), great)
        self.assertEqual(shared(SIZES, great, quiet), quiet)
        self.assertEqual(shared(SIZES, great, great), great)


class RefusedTest(unittest.TestCase):
    def check_refused(self, ask, kind, book, way, other):
        with self.subTest(ask=ask.__name__, kind=kind.__name__):
            with self.assertRaises(kind):
                ask(book, way, other)
            with self.assertRaises(TurnError):
                ask(book, way, other)

    def test_too_great_sources(self):
        for great in (("Down", flat(399)), ("Down", chain(39))):
            self.assertTrue(is_small(great))
            for ask in (behind, joined, shared):
                self.check_refused(ask, TooGreat, SIZES, great, ("a",))
                self.check_refused(ask, TooGreat, SIZES, ("a",), great)
                self.check_refused(ask, TooGreat, SIZES, great, great)

    def test_just_not_too_great_sources(self):
        way = ("Down", flat(398))
        self.assertEqual(weight(source(SIZES, way)), 400)
        self.assertEqual(behind(SIZES, way, way), ("d", flat(398)))
        self.assertEqual(joined(SIZES, way, source(SIZES, way)), way)
        self.assertEqual(shared(SIZES, way, way), way)

    def test_apart(self):
        for ask in (behind, joined, shared):
            for way, other in (("a", "b"), ("Low", "b"), ("Low", "Grow"), ("g(Low)", "g(b)"), ("g(a)", "Low"), ("g", "g(a)")):
                self.check_refused(ask, Apart, MIXED, read_way(way), read_way(other))
                self.check_refused(ask, Apart, MIXED, read_way(other), read_way(way))

    def test_apart_ahead_of_a_too_great_goal(self):
        great = ("Up", flat(399))
        for ask in (behind, joined, shared):
            self.check_refused(ask, Apart, SIZES, ("a",), great)
            self.check_refused(ask, Apart, SIZES, great, ("a",))

    def test_too_great_goal_of_the_second_one(self):
        for great in (("Up", flat(399)), ("Up", chain(39))):
            quiet = source(SIZES, great)
            self.check_refused(behind, TooGreat, SIZES, quiet, great)
            self.check_refused(behind, TooGreat, SIZES, great, great)
            self.assertEqual(behind(SIZES, great, quiet), great)
        fitting = ("Up", flat(398))
        self.assertEqual(weight(behind(SIZES, fitting, fitting)), 400)

    def test_the_goal_of_what_comes_may_be_too_great(self):
        shape = ("g", ("x",) + (("y",),) * 20)
        twice = ("Twice", shape[1])
        big = ("g", ("x",) + (("Big",),) * 20)
        found = behind(CUTTING, big, twice)
        self.assertEqual(found, ("f", big[1], big[1]))
        with self.assertRaises(TooGreat):
            goal(CUTTING, found)

    def test_what_is_too_great_by_far_is_refused_or_dropped(self):
        giant = chain(38, ("a",), "Wide")
        quiet = source(WIDE, giant)
        self.check_refused(behind, TooGreat, WIDE, quiet, giant)
        self.assertEqual(behind(WIDE, giant, quiet), giant)
        self.assertEqual(behind(WIDE, ("k", giant, ("b",)), ("Drop", giant, ("b",))), ("b",))
        self.assertEqual(behind(WIDE, ("Drop", giant, ("b",)), ("k", quiet, ("b",))), ("Drop", giant, ("b",)))

    def test_open_uses_of_what_comes(self):
        self.assertEqual(open_uses(MIXED, source(MIXED, behind(MIXED, ("c",), ("Grow",)))), [((), "Twice"), ((0,), "Grow")])


if __name__ == "__main__":
    unittest.main()
