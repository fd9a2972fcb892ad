import itertools
import unittest

from asking import check_own
from samples import CUTTING, MIXED, SHAPES, all_roads, book, chance_of, random_road, random_shape
from things import flat
from turnweave.errors import TooGreat, TurnError
from turnweave.roads import alike, end, is_road, road_behind, road_joined
from turnweave.singles import laid_out, most, road_of
from turnweave.squares import behind
from turnweave.standard import standard
from turnweave.texts import read_way
from turnweave.uses import full_way, open_uses, way_of
from turnweave.ways import goal, is_quiet

SPIN = book("Spin: c > c", "Low: a > b", "Drop: k(?0,b) > b", "Twice: g(?0) > f(?0,?0)")
# Each RIGHT has every blank of its LEFT.
KEEPING = book("Twice: g(?0) > f(?0,?0)", "Swap: s(?0,m(?1)) > t(?1,?0)", "Low: a > b", "Grow: c > g(c)", "Pair: f(d,?0) > f(?0,?0)")

# Turnings that come to be open only when a later part is turned; what stands ahead of that part is then below them.
LATE = book(
    "Low: a > b", "Twice: g(?0) > f(?0,?0)", "Late: p(?0,?1,b) > v(?1,h(?0,x),?0)", "Gone: q(?0,r(?1),b) > y(?1)",
)


def road(shape, *ways):
    return (read_way(shape), [read_way(way) for way in ways])


def first_by_point_24(book, one):
    for place, _ in open_uses(book, one[0]):
        single = way_of(book, one[0], [place])
        for way in one[1]:
            single = behind(book, single, way)
        if is_quiet(single):
            return place
    raise AssertionError("there is no such place")


def row_by_point_24(book, one):
    """The standard row by the document's own words; None where there is none within sixty places."""
    row = []
    while not all(is_quiet(way) for way in one[1]):
        if len(row) == 60:
            return None
        place = first_by_point_24(book, one)
        row.append(place)
        try:
            one = road_behind(book, one, (one[0], [way_of(book, one[0], [place])]))
        except TooGreat:
            return None
    return row


class StandardTest(unittest.TestCase):
    def check(self, one, expected, book=MIXED):
        with self.subTest(one=one):
            self.assertTrue(is_road(book, one))
            found = check_own(self, standard, book, one)
            self.assertEqual(found, expected)
            self.assertTrue(alike(book, road_of(book, one[0], found), one))

    def check_refused(self, book, one):
        self.assertTrue(is_road(book, one))
        before = repr(one)
        with self.assertRaises(TooGreat):
            standard(book, one)
        with self.assertRaises(TurnError):
            standard(book, one)
        self.assertEqual(repr(one), before)

    def check_by_the_words(self, book, one):
        """Tells whether the road has a row."""
        expected = row_by_point_24(book, one)
        if expected is None:
            self.check_refused(book, one)
            return False
        self.check(one, expected, book)
        return True

    def test_no_ways_and_quiet_ways(self):
        for shape in SHAPES:
            self.check((shape, []), [])
            self.check((shape, [shape, shape]), [])

    def test_one_way(self):
        self.check(road("a", "Low"), [()])
        self.check(road("g(a)", "g(Low)"), [(0,)])
        self.check(road("g(a)", "Twice(Low)"), [(), (0,), (1,)])
        self.check(road("f(a,a)", "f(Low,Low)"), [(0,), (1,)])
        self.check(road("g(g(a))", "Twice(Twice(a))"), [(), (0,), (1,)])

    def test_several_ways(self):
        self.check(road("f(a,a)", "f(a,Low)", "f(Low,b)"), [(0,), (1,)])
        self.check(road("g(a)", "g(Low)", "Twice(b)"), [(), (0,), (1,)])
        self.check(road("c", "Grow", "g(Grow)", "Twice(g(c))"), [(), (), (0,), (1,)])
        self.check(road("f(d,a)", "Pair(a)", "k(a,Twice(a))", "k(a,f(a,Low))"), [(), (1,), (1, 1)])

    def test_a_turning_that_another_one_makes_possible(self):
        self.check(road("g(f(a,a))", "g(f(Low,a))"), [(0, 0)])
        self.check(road("s(c,m(a))", "s(Grow,m(a))", "s(Twice(c),m(a))", "Swap(f(c,c),a)"), [(), (1,), (1,)])

    def test_dropped_uses_are_told_where_they_come_first(self):
        self.check(road("k(a,b)", "Drop(a,b)"), [()])
        self.check(road("k(a,b)", "Drop(Low,b)"), [()])
        self.check(road("k(a,b)", "k(Low,b)", "Drop(b,b)"), [()])
        self.check(road("k(a,a)", "k(a,Low)", "Drop(a)"), [(0,), (1,), ()], SPIN)
        self.check(road("k(g(a),a)", "k(g(a),Low)", "Drop(g(a))"), [(0,), (0, 0), (0, 1), (1,), ()], SPIN)

    def test_below_a_turning_that_is_open_only_later(self):
        self.check(road("p(a,x,a)", "p(a,x,Low)", "Late(a,x)"), [(2,), ()], LATE)
        self.check(road("p(a,x,a)", "p(a,x,Low)", "Late(Low,x)"), [(0,), (2,), ()], LATE)
        self.check(road("p(a,x,a)", "p(a,x,Low)", "Late(a,x)", "v(x,h(Low,x),a)"), [(2,), (), (1, 0)], LATE)
        self.check(road("p(a,x,a)", "p(a,x,Low)", "Late(a,x)", "v(x,h(a,x),Low)"), [(2,), (), (2,)], LATE)
        self.check(road("p(a,x,a)", "p(a,x,Low)", "Late(a,x)", "v(x,h(Low,x),Low)"), [(0,), (2,), ()], LATE)
        self.check(road("p(x,a,a)", "p(x,a,Low)", "Late(x,a)", "v(Low,h(x,x),x)"), [(1,), (2,), ()], LATE)
        self.check(road("q(a,r(a),a)", "q(a,r(a),Low)", "Gone(a,a)"), [(0,), (2,), ()], LATE)
        self.check(road("q(a,r(a),a)", "q(a,r(a),Low)", "Gone(a,a)", "y(Low)"), [(0,), (1, 0), (2,), ()], LATE)
        self.check(road("p(x(a),g(a),a)", "p(x(a),g(Low),Low)", "Late(x(a),g(b))"), [(1, 0), (2,), ()], LATE)

    def test_such_roads_by_the_words_of_point_24(self):
        chance = chance_of(29)
        for text in (
            "p(a,x,a)", "p(x(a),g(a),a)", "q(a,r(g(a)),a)", "p(q(a,r(a),a),a,a)", "q(p(a,a,a),r(p(a,a,a)),a)", "p(a,a,p(a,a,b))",
            "x(p(g(a),a,b),p(a,g(a),a))", "g(q(a,r(a),a))", "p(a,p(a,a,a),a)", "q(q(a,r(a),a),r(a),a)",
        ):
            for count in (2, 3, 4, 5, 6):
                self.check_by_the_words(LATE, random_road(chance, LATE, read_way(text), count))

    def test_by_the_words_of_point_24(self):
        chance = chance_of(14)
        told = 0
        for shape in SHAPES + [random_shape(chance, 5) for _ in range(30)]:
            told += self.check_by_the_words(MIXED, random_road(chance, MIXED, shape, 1 + chance.randrange(3)))
        self.assertGreater(told, 40)

    def test_all_short_roads(self):
        for text in ("g(a)", "k(a,c)", "k(a,a)", "f(d,a)", "s(a,m(c))"):
            for one in all_roads(MIXED, read_way(text), 2)[::3]:
                self.check_by_the_words(MIXED, one)

    def test_alike_roads_have_one_row(self):
        chance = chance_of(15)
        for shape in SHAPES:
            one = random_road(chance, MIXED, shape, 2)
            two = random_road(chance, MIXED, shape, 2)
            self.assertEqual(
                standard(MIXED, road_joined(MIXED, one, two)), standard(MIXED, road_joined(MIXED, two, one))
            )

    def test_roads_that_are_not_alike_have_other_rows(self):
        for text in ("g(a)", "k(a,a)", "f(a,a)", "g(k(b,a))"):
            roads = all_roads(MIXED, read_way(text), 2)
            for one, two in itertools.product(roads[::2], roads[::3]):
                self.assertIs(standard(MIXED, one) == standard(MIXED, two), alike(MIXED, one, two))

    def test_a_way_and_the_same_one_by_one(self):
        for shape in SHAPES:
            way = full_way(MIXED, shape)
            row = standard(MIXED, (shape, [way]))
            self.assertEqual(standard(MIXED, road_of(MIXED, shape, laid_out(MIXED, way))), row)
            self.assertEqual(standard(MIXED, road_of(MIXED, shape, row)), row)
            self.assertLessEqual(len(row), most(MIXED, way))

    def test_it_ends_where_nothing_is_dropped(self):
        chance = chance_of(16)
        told = 0
        for shape in SHAPES + [random_shape(chance, 5) for _ in range(30)]:
            one = random_road(chance, KEEPING, shape, 3)
            if self.check_by_the_words(KEEPING, one):
                self.assertEqual(end(KEEPING, road_of(KEEPING, shape, standard(KEEPING, one))), end(KEEPING, one))
                told += 1
        self.assertGreater(told, 40)

    def test_sixty_places_and_sixty_one(self):
        sixty = (flat(61), [flat(61, ("Low",))])
        self.check(sixty, [(number,) for number in range(60)])
        self.check_refused(MIXED, (flat(62), [flat(62, ("Low",))]))
        self.check((sixty[0], sixty[1] + [flat(61, ("b",))]), [(number,) for number in range(60)])

    def test_a_row_that_goes_on_for_ever(self):
        self.check_refused(SPIN, road("k(c,a)", "k(c,Low)", "Drop(c)"))
        self.check(road("k(c,b)", "Drop(c)"), [()], SPIN)
        self.check_refused(SPIN, road("f(k(c,a),c)", "f(k(c,Low),c)", "f(Drop(c),c)"))

    def test_where_the_road_behind_is_refused(self):
        heavy = flat(250, ("z",))
        shape = ("g", ("k", heavy, ("b",)))
        one = (shape, [("g", ("Drop", heavy)), ("Twice", ("b",))])
        self.assertEqual(end(SPIN, one), read_way("f(b,b)"))
        self.check_refused(SPIN, one)
        self.check_refused(SPIN, (shape, [("Twice", ("Drop", heavy))]))
        light = flat(197, ("z",))
        self.check((("g", ("k", light, ("b",))), [("g", ("Drop", light)), ("Twice", ("b",))]), [(), (0,), (1,)], SPIN)

    def test_the_looking_is_never_refused(self):
        heavy = flat(250, ("z",))
        shape = ("x", ("g", heavy), ("y",))
        with self.assertRaises(TooGreat):
            goal(CUTTING, way_of(CUTTING, shape, [(0,)]))
        self.check((shape, [("x", ("g", heavy), ("Big",))]), [(1,)], CUTTING)

    def test_many_open_uses_that_the_road_has_not(self):
        shape = ("x",) + (("g", ("z",)),) * 100 + (("a",),) * 40
        one = road_of(MIXED, shape, [(139 - number,) for number in range(20)])
        self.check(one, [(120 + number,) for number in range(20)])


if __name__ == "__main__":
    unittest.main()
