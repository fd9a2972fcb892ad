import unittest

from asking import check_own
from samples import MIXED, SHAPES, SIZES, WIDE, all_ways, book, chance_of, random_shape, random_way
from things import chain, chain_and_flat, flat
from tracing import sources_and_goals
from turnweave.errors import TooGreat, TurnError
from turnweave.shapes import depth, is_small, weight
from turnweave.texts import read_way
from turnweave.ways import goal, is_quiet, is_way, source


class IsWayTest(unittest.TestCase):
    def check(self, text, expected, book=MIXED):
        with self.subTest(text=text):
            way = read_way(text)
            self.assertIs(check_own(self, is_way, book, way), expected)
            self.assertIs(is_way(book, ("f", ("a",), ("h", way))), expected)

    def test_ways(self):
        for text in ("Low", "Twice(a)", "Twice(Twice(Low))", "Drop(a,Low)", "Mix(a,b,Low)", "f(Low,g(Twice(c)))"):
            self.check(text, True)

    def test_every_shape_is_a_way(self):
        for text in ("a", "f", "f(a)", "f(a,b,c)", "g(a,b)", "x(y,z(q))", "abcdefgh"):
            self.check(text, True)
            self.check(text, True, [])

    def test_an_unknown_title(self):
        for text in ("Up", "Up(a)", "Twic(a)", "Twicee(a)", "T(a)"):
            self.check(text, False)
        self.check("Twice(a)", False, [])
        self.check("Twice(a)", False, SIZES)

    def test_too_many_or_too_few(self):
        for text in ("Twice", "Twice(a,b)", "Drop", "Drop(a)", "Drop(a,b,c)", "Low(a)", "Low(a,b)", "Mix(a,b)"):
            self.check(text, False)

    def test_the_count_is_that_of_left(self):
        both = book("All: x(?0,y(?1),?2) > ?1")
        for text, expected in (("All(a,b,c)", True), ("All(a)", False), ("All(a,b)", False), ("All(a,b,c,d)", False)):
            self.check(text, expected, both)

    def test_deeper(self):
        for text in ("f(Twice)", "f(a,g(Drop(a)))", "Twice(Low(a))", "Drop(a,Up)", "Mix(a,b,Drop(a,Twice))"):
            self.check(text, False)

    def test_texts_that_are_neither_sign_nor_title(self):
        for head in ("", " ", "a b", "0", "?0", "aB", "AB", "abcdefghi", "Abcdefghi", "f(a)", "a\n", "\u00e4", "twi ce"):
            for thing in ((head,), (head, ("a",)), ("f", (head,)), ("Twice", (head,)), ("f", ("a",), ("g", (head,)))):
                with self.subTest(thing=thing):
                    self.assertIs(is_way(MIXED, thing), False)
                    self.assertIs(is_way([], thing), False)

    def test_greatest(self):
        self.assertIs(is_way(MIXED, chain(40, ("Low",), "Twice")), True)
        self.assertIs(is_way(MIXED, chain(40, ("Up",), "Twice")), False)
        self.assertIs(is_way(MIXED, flat(400, ("Low",))), True)
        self.assertIs(is_way(MIXED, flat(399, ("Low",)) + (("Up",),)), False)

    def test_somewhat_deeper_than_small(self):
        self.assertIs(is_way(MIXED, chain(150, ("Low",), "Twice")), True)
        self.assertIs(is_way(MIXED, chain(150, ("Up",), "Twice")), False)


class IsQuietTest(unittest.TestCase):
    def test_quiet(self):
        for text in ("a", "f(a,b)", "f(g(h(a)),b)", "abcdefgh(a)"):
            self.assertIs(is_quiet(read_way(text)), True)
        self.assertIs(is_quiet(chain(40)), True)

    def test_not_quiet(self):
        for text in ("Low", "A", "Twice(a)", "f(Low)", "f(a,Low)", "f(a,g(h(b,Low)),c)", "Twice(Low)", "Abcdefgh"):
            self.assertIs(is_quiet(read_way(text)), False)
        self.assertIs(is_quiet(chain(40, ("Low",))), False)

    def test_no_shape_has_a_title(self):
        for shape in SHAPES:
            for way in all_ways(MIXED, shape):
                self.assertIs(is_quiet(way), way == shape)


class SourceAndGoalTest(unittest.TestCase):
    def check(self, text, source_text, goal_text, book=MIXED):
        with self.subTest(text=text):
            way = read_way(text)
            self.assertEqual(check_own(self, source, book, way), read_way(source_text))
            self.assertEqual(check_own(self, goal, book, way), read_way(goal_text))

    def test_quiet_ways(self):
        for shape in SHAPES:
            self.assertEqual(source(MIXED, shape), shape)
            self.assertEqual(goal(MIXED, shape), shape)
            self.assertEqual(source([], shape), shape)

    def test_one_title(self):
        self.check("Low", "a", "b")
        self.check("Grow", "c", "g(c)")
        self.check("f(x,h(Low))", "f(x,h(a))", "f(x,h(b))")

    def test_doubled(self):
        self.check("Twice(a)", "g(a)", "f(a,a)")
        self.check("Twice(Low)", "g(a)", "f(b,b)")

    def test_dropped(self):
        self.check("Drop(a,c)", "k(a,c)", "c")
        self.check("Drop(Low,Grow)", "k(a,c)", "g(c)")

    def test_exchanged(self):
        self.check("Swap(x,y)", "s(x,m(y))", "t(y,x)")
        self.check("Swap(Low,Grow)", "s(a,m(c))", "t(g(c),b)")

    def test_all_at_once(self):
        self.check("Mix(Low,Grow,Twice(y))", "u(h(a,n),c,g(y))", "v(f(y,y),g(b),f(y,y))")

    def test_titles_within_titles(self):
        self.check("Twice(Twice(Low))", "g(g(a))", "f(f(b,b),f(b,b))")
        self.check("Drop(Twice(Low),Swap(Grow,a))", "k(g(a),s(c,m(a)))", "t(a,g(c))")
        self.check("f(Pair(Drop(x,Low)),Low)", "f(f(d,k(x,a)),a)", "f(k(b,g(b)),b)")

    def test_a_blank_alone_as_right(self):
        self.check("h(Drop(x,Drop(y,Low)))", "h(k(x,k(y,a)))", "h(b)")

    def test_another_way_to_tell(self):
        chance = chance_of(1)
        for _ in range(60):
            shape = random_shape(chance, 6)
            way = random_way(chance, MIXED, shape)
            expected = sources_and_goals(MIXED, way)
            self.assertEqual(source(MIXED, way), shape)
            self.assertEqual(expected[0], shape)
            self.assertTrue(is_way(MIXED, way))
            if is_small(expected[1]):
                self.assertEqual(goal(MIXED, way), expected[1])

    def check_refused(self, ask, book, way):
        with self.assertRaises(TooGreat):
            ask(book, way)
        with self.assertRaises(TurnError):
            ask(book, way)

    def test_source_400_and_401_heavy(self):
        self.assertEqual(weight(source(SIZES, ("Down", flat(398)))), 400)
        self.check_refused(source, SIZES, ("Down", flat(399)))
        self.assertEqual(goal(SIZES, ("Down", flat(399))), ("d", flat(399)))
        self.check_refused(source, SIZES, flat(399) + (("Down", ("a",)),))
        inner = flat(200)[:-1] + (("Down", flat(198)),)
        self.assertEqual(weight(source(SIZES, inner)), 399)
        self.assertEqual(weight(source(SIZES, inner + (("a",),))), 400)
        self.check_refused(source, SIZES, inner + (("a",), ("a",)))

    def test_source_40_and_41_deep(self):
        self.assertEqual(depth(source(SIZES, ("Down", chain(38)))), 40)
        self.check_refused(source, SIZES, ("Down", chain(39)))
        self.assertEqual(depth(goal(SIZES, ("Down", chain(39)))), 40)
        self.assertEqual(depth(source(SIZES, chain(39, ("Down", ("a",)))[1])), 40)
        self.check_refused(source, SIZES, chain(39, ("Down", ("a",))))

    def test_goal_400_and_401_heavy(self):
        self.assertEqual(weight(goal(SIZES, ("Up", flat(398)))), 400)
        self.check_refused(goal, SIZES, ("Up", flat(399)))
        self.assertEqual(weight(source(SIZES, ("Up", flat(399)))), 400)
        self.assertEqual(weight(goal(MIXED, ("x", ("Twice", flat(199))))), 400)
        self.check_refused(goal, MIXED, ("x", ("Twice", flat(199)), ("a",)))

    def test_goal_40_and_41_deep(self):
        self.assertEqual(depth(goal(SIZES, ("Up", chain(38)))), 40)
        self.check_refused(goal, SIZES, ("Up", chain(39)))
        self.assertEqual(depth(source(SIZES, ("Up", chain(39)))), 40)

    def test_quiet_ways_at_the_edge(self):
        for ask in (source, goal):
            for shape in (chain(40), flat(400), chain_and_flat(40, 400)):
                self.assertEqual(ask(MIXED, shape), shape)
            for shape in (chain(41), flat(401)):
                self.check_refused(ask, MIXED, shape)

    def test_a_goal_too_great_by_far(self):
        giant = chain(39, ("a",), "Wide")
        self.check_refused(goal, WIDE, giant)
        self.check_refused(goal, WIDE, ("f", giant, ("a",)))
        self.assertEqual(source(WIDE, giant), chain(39, ("a",), "w"))

    def test_a_part_too_great_by_far_may_be_dropped(self):
        giant = chain(39, ("a",), "Wide")
        self.assertEqual(goal(WIDE, ("Drop", giant, ("b",))), ("b",))
        self.check_refused(goal, WIDE, ("Drop", ("b",), giant))

    def test_a_source_too_great_by_far(self):
        long = book("Long: x(y(y(y(y(y(y(y(y(y(y(?0))))))))))) > ?0")
        giant = chain(40, ("a",), "Long")
        self.check_refused(source, long, giant)
        self.assertEqual(goal(long, giant), ("a",))

    def test_heavier_than_its_source_is_no_way(self):
        for shape in SHAPES:
            for way in all_ways(MIXED, shape):
                self.assertLessEqual(weight(way), weight(shape))
                self.assertLessEqual(depth(way), depth(shape))


if __name__ == "__main__":
    unittest.main()
