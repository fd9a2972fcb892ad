import itertools
import unittest

from asking import check_own
from samples import MIXED, SHAPES, SIZES, all_ways, book, chance_of, random_shape, random_way, subsets
from things import chain, flat
from turnweave.errors import NoUse, TurnError
from turnweave.shapes import part, places
from turnweave.sides import matched
from turnweave.texts import read_way
from turnweave.uses import full_way, open_uses, uses, way_of
from turnweave.ways import is_quiet, is_way, source

LONG = book("Long: x(y(y(y(y(y(y(y(y(y(y(?0))))))))))) > ?0", "Side: z(q,?0,r(?1)) > ?1")


class OpenUsesTest(unittest.TestCase):
    def check(self, text, expected):
        with self.subTest(text=text):
            self.assertEqual(check_own(self, open_uses, MIXED, read_way(text)), expected)

    def test_none(self):
        for text in ("b", "x(y)", "g(b,b)", "a(b)", "f(b,d)", "s(b,h(b,n))", "u(h(b),b,b)"):
            self.check(text, [])
        self.assertEqual(open_uses([], ("a",)), [])

    def test_one(self):
        self.check("a", [((), "Low")])
        self.check("x(y,a)", [((1,), "Low")])
        self.check("k(b,b)", [((), "Drop")])

    def test_by_the_order_of_places(self):
        self.check("f(g(a),a)", [((0,), "Twice"), ((0, 0), "Low"), ((1,), "Low")])
        self.check("x(y(z(a)),c,g(b))", [((0, 0, 0), "Low"), ((1,), "Grow"), ((2,), "Twice")])
        many = ("x",) + (("a",), ("b",)) * 12
        self.assertEqual(open_uses(MIXED, many), [((number,), "Low") for number in range(0, 24, 2)])

    def test_under_other_uses(self):
        self.check("g(g(a))", [((), "Twice"), ((0,), "Twice"), ((0, 0), "Low")])
        self.check("s(a,m(c))", [((), "Swap"), ((0,), "Low"), ((1, 0), "Grow")])
        self.check("u(h(a,n),c,k(a,a))", [
            ((), "Mix"), ((0, 0), "Low"), ((1,), "Grow"), ((2,), "Drop"), ((2, 0), "Low"), ((2, 1), "Low"),
        ])

    def test_the_order_of_the_book_does_not_matter(self):
        for shape in SHAPES:
            self.assertEqual(open_uses(MIXED[::-1], shape), open_uses(MIXED, shape))

    def test_told_by_point_15(self):
        chance = chance_of(2)
        for shape in SHAPES + [random_shape(chance, 6) for _ in range(40)]:
            expected = []
            for place in sorted(places(shape)):
                titles = [title for title, left, _ in MIXED if matched(left, part(shape, place)) is not None]
                self.assertLessEqual(len(titles), 1)
                expected += [(place, title) for title in titles]
            self.assertEqual(open_uses(MIXED, shape), expected)

    def test_kinds(self):
        for place, title in open_uses(MIXED, read_way("f(g(a),a)")):
            self.assertIs(type(place), tuple)
            self.assertIs(type(title), str)
        self.assertIs(type(open_uses(MIXED, ("a",))[0]), tuple)

    def test_greatest(self):
        self.assertEqual(len(open_uses(MIXED, flat(400))), 399)
        self.assertEqual(open_uses(MIXED, chain(40, ("b",), "g")), [((0,) * deep, "Twice") for deep in range(39)])


class UsesTest(unittest.TestCase):
    def check(self, text, expected, book=MIXED):
        with self.subTest(text=text):
            self.assertEqual(check_own(self, uses, book, read_way(text)), expected)

    def test_quiet_ways(self):
        for shape in SHAPES:
            self.assertEqual(uses(MIXED, shape), [])

    def test_written_out(self):
        self.check("Low", [((), "Low")])
        self.check("g(Low)", [((0,), "Low")])
        self.check("Twice(a)", [((), "Twice")])
        self.check("Twice(Low)", [((), "Twice"), ((0,), "Low")])
        self.check("f(Drop(a,Low),Grow)", [((0,), "Drop"), ((0, 1), "Low"), ((1,), "Grow")])

    def test_places_are_those_of_the_source(self):
        self.check("Swap(Low,Grow)", [((), "Swap"), ((0,), "Low"), ((1, 0), "Grow")])
        self.check("Pair(Low)", [((), "Pair"), ((1,), "Low")])
        self.check("x(Pair(Mix(Low,Grow,Low)))", [
            ((0,), "Pair"), ((0, 1), "Mix"), ((0, 1, 0, 0), "Low"), ((0, 1, 1), "Grow"), ((0, 1, 2), "Low"),
        ])
        self.check("Side(a,Long(Side(b,c)))", [
            ((), "Side"), ((2, 0), "Long"), ((2, 0) + (0,) * 11, "Side"),
        ], LONG)

    def test_those_of_its_open_uses_of_which_it_tells(self):
        for shape in SHAPES:
            opened = open_uses(MIXED, shape)
            found = []
            for way in all_ways(MIXED, shape):
                self.assertEqual(source(MIXED, way), shape)
                self.assertEqual(uses(MIXED, way), sorted(uses(MIXED, way)))
                self.assertLessEqual(set(uses(MIXED, way)), set(opened))
                found.append(tuple(uses(MIXED, way)))
            self.assertEqual(sorted(found), sorted(subsets(opened)))

    def test_as_many_as_titles(self):
        chance = chance_of(3)
        for _ in range(40):
            way = random_way(chance, MIXED, random_shape(chance, 6))
            titles = [part(way, place)[0] for place in places(way) if not is_quiet((part(way, place)[0],))]
            self.assertEqual([title for _, title in uses(MIXED, way)], titles)

    def test_a_source_that_is_not_small(self):
        way = chain(40, ("a",), "Long")
        self.assertEqual(uses(LONG, way), [((0,) * (11 * number), "Long") for number in range(39)])
        self.assertEqual(len(uses(SIZES, flat(400, ("d",))[:200] + (("Down", flat(199)),))), 1)


class WayOfTest(unittest.TestCase):
    def check(self, text, spots, expected):
        with self.subTest(text=text, spots=spots):
            self.assertEqual(check_own(self, way_of, MIXED, read_way(text), spots), read_way(expected))

    def check_refused(self, text, spots):
        with self.subTest(text=text, spots=spots):
            before = repr(spots)
            with self.assertRaises(NoUse):
                way_of(MIXED, read_way(text), spots)
            with self.assertRaises(TurnError):
                way_of(MIXED, read_way(text), spots)
            self.assertEqual(repr(spots), before)

    def test_no_places(self):
        for shape in SHAPES:
            self.assertEqual(way_of(MIXED, shape, []), shape)

    def test_written_out(self):
        self.check("f(g(a),a)", [(0,)], "f(Twice(a),a)")
        self.check("f(g(a),a)", [(0, 0)], "f(g(Low),a)")
        self.check("f(g(a),a)", [(0,), (0, 0)], "f(Twice(Low),a)")
        self.check("s(a,m(s(c,m(a))))", [(), (1, 0, 1, 0)], "Swap(a,s(c,m(Low)))")
        self.check("s(a,m(s(c,m(a))))", [(1, 0), (1, 0, 0)], "s(a,m(Swap(Grow,a)))")
        self.check("f(d,u(h(a,n),c,c))", [(), (1,), (1, 2)], "Pair(Mix(a,c,Grow))")

    def test_in_any_order(self):
        shape = read_way("f(g(a),u(h(a,n),c,b))")
        spots = [place for place, _ in open_uses(MIXED, shape)]
        expected = way_of(MIXED, shape, spots)
        for row in itertools.permutations(spots):
            self.assertEqual(way_of(MIXED, shape, list(row)), expected)

    def test_one_more_than_once(self):
        self.check("g(a)", [(0,), (0,)], "g(Low)")
        self.check("g(a)", [(0,), (), (0,), ()], "Twice(Low)")

    def test_no_open_use(self):
        self.check_refused("b", [()])
        self.check_refused("g(b)", [(0,)])
        self.check_refused("f(a,b)", [()])
        self.check_refused("s(a,m(c))", [(1,)])
        self.check_refused("f(d,a)", [(0,)])
        self.check_refused("g(a,a)", [()])

    def test_no_such_place(self):
        for place in ((0,), (1,), (-1,), (0, 0), (10 ** 40,), (0,) * 200):
            self.check_refused("a", [place])
        for place in ((1,), (-1,), (-2,), (0, 0), (0, -1), (2, 0)):
            self.check_refused("g(a)", [place])
        self.check_refused("f(g(a),a)", [(-1,)])
        self.check_refused("f(g(a),a)", [(-2, 0)])

    def test_one_of_several(self):
        for spots in ([(0,), (1,)], [(1,), (0,)], [(0,), (0, 0), (5,)], [(0,), (0,), ()]):
            self.check_refused("f(g(a),b)", spots)

    def test_a_way_is_told_again_from_its_source_and_its_uses(self):
        chance = chance_of(4)
        for _ in range(60):
            shape = random_shape(chance, 6)
            way = random_way(chance, MIXED, shape)
            spots = [place for place, _ in uses(MIXED, way)]
            self.assertEqual(way_of(MIXED, source(MIXED, way), spots), way)
            self.assertEqual(way_of(MIXED, source(MIXED, way), spots[::-1] + spots), way)
        for shape in SHAPES:
            found = all_ways(MIXED, shape)
            self.assertEqual(len(set(found)), 2 ** len(open_uses(MIXED, shape)))

    def test_just_the_uses_at_these_places(self):
        for shape in SHAPES:
            opened = open_uses(MIXED, shape)
            for chosen in subsets(opened):
                way = way_of(MIXED, shape, [place for place, _ in chosen])
                self.assertTrue(is_way(MIXED, way))
                self.assertEqual(tuple(uses(MIXED, way)), chosen)


class FullWayTest(unittest.TestCase):
    def check(self, text, expected):
        with self.subTest(text=text):
            self.assertEqual(check_own(self, full_way, MIXED, read_way(text)), read_way(expected))

    def test_written_out(self):
        self.check("b", "b")
        self.check("a", "Low")
        self.check("x(a,b,c)", "x(Low,b,Grow)")
        self.check("g(g(a))", "Twice(Twice(Low))")
        self.check("u(h(a,n),c,k(a,f(d,a)))", "Mix(Low,Grow,Drop(Low,Pair(Low)))")
        self.check("s(a,h(c,n))", "s(Low,h(Grow,n))")

    def test_all_open_uses(self):
        chance = chance_of(5)
        for shape in SHAPES + [random_shape(chance, 6) for _ in range(40)]:
            way = full_way(MIXED, shape)
            self.assertEqual(source(MIXED, way), shape)
            self.assertEqual(uses(MIXED, way), open_uses(MIXED, shape))

    def test_greatest(self):
        self.assertEqual(full_way(MIXED, flat(400)), flat(400, ("Low",)))
        self.assertEqual(full_way(MIXED, chain(40, ("a",), "g")), chain(40, ("Low",), "Twice"))


if __name__ == "__main__":
    unittest.main()
