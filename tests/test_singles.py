import functools
import unittest

from asking import check_own
from samples import CUTTING, MIXED, SHAPES, SIZES, WIDE, all_ways, book, chance_of, random_shape, random_way
from things import chain, flat
from tracing import one_step, use_places
from turnweave.errors import NoUse, TooGreat, TurnError
from turnweave.roads import end, is_road
from turnweave.shapes import part, with_part
from turnweave.sides import filled, matched
from turnweave.singles import fewest, laid_out, most, road_of
from turnweave.squares import behind
from turnweave.texts import read_way
from turnweave.uses import uses
from turnweave.ways import goal, is_quiet, source

LONG = book("Long: x(y(y(y(y(y(y(y(y(y(y(?0))))))))))) > ?0", "Side: z(q,?0,r(?1)) > ?1")


class RoadOfTest(unittest.TestCase):
    def check(self, text, spots, expected):
        with self.subTest(text=text, spots=spots):
            found = check_own(self, road_of, MIXED, read_way(text), spots)
            self.assertEqual(found, (read_way(text), [read_way(way) for way in expected]))
            self.assertTrue(is_road(MIXED, found))
            self.assertEqual([use_places(MIXED, way) for way in found[1]], [[place] for place in spots])

    def check_refused(self, kind, book, shape, spots):
        with self.subTest(shape=shape, spots=spots):
            before = repr(spots)
            with self.assertRaises(kind):
                road_of(book, shape, spots)
            with self.assertRaises(TurnError):
                road_of(book, shape, spots)
            self.assertEqual(repr(spots), before)

    def test_no_places(self):
        for shape in SHAPES:
            self.assertEqual(check_own(self, road_of, MIXED, shape, []), (shape, []))

    def test_written_out(self):
        self.check("a", [()], ["Low"])
        self.check("g(a)", [(), (0,), (1,)], ["Twice(a)", "f(Low,a)", "f(b,Low)"])
        self.check("g(a)", [(0,), ()], ["g(Low)", "Twice(b)"])
        self.check("k(a,c)", [(0,), (1,), (1,), ()], ["k(Low,c)", "k(b,Grow)", "k(b,Twice(c))", "Drop(b,f(c,c))"])
        self.check("f(d,a)", [(), (), (), (0,), (1,)], ["Pair(a)", "Drop(a,g(a))", "Twice(a)", "f(Low,a)", "f(b,Low)"])

    def test_no_use(self):
        self.check_refused(NoUse, MIXED, ("b",), [()])
        self.check_refused(NoUse, MIXED, ("a",), [(), ()])
        self.check_refused(NoUse, MIXED, read_way("g(a)"), [(1,)])
        self.check_refused(NoUse, MIXED, read_way("g(a)"), [(), (0,), (0,)])
        self.check_refused(NoUse, MIXED, read_way("g(a)"), [(), (0,), (-1,)])
        self.check_refused(NoUse, MIXED, read_way("k(a,b)"), [(), (0,)])

    def test_too_great(self):
        self.check_refused(TooGreat, SIZES, ("d", flat(399)), [()])
        self.check_refused(TooGreat, SIZES, ("d", chain(39)), [()])
        self.assertEqual(road_of(SIZES, ("d", flat(398)), [()]), (("d", flat(398)), [("Up", flat(398))]))
        shape = ("d", ("d", flat(397)))
        self.assertEqual(len(road_of(SIZES, shape, [()])[1]), 1)
        self.check_refused(TooGreat, SIZES, shape, [(0,), ()])

    def test_the_first_place_at_which_one_is_due(self):
        shape = ("d", ("d", flat(397)))
        self.check_refused(TooGreat, SIZES, shape, [(), (0, 0), (5,)])
        self.check_refused(NoUse, SIZES, shape, [(), (0,), (0, 0)])
        self.check_refused(NoUse, SIZES, shape, [(5,), (), (0,)])
        self.check_refused(NoUse, SIZES, shape, [(0,), (0,), ()])
        self.check_refused(TooGreat, SIZES, ("d", flat(399)), [(), ()])
        self.check_refused(NoUse, SIZES, ("d", flat(399)), [(0,), ()])

    def test_sixty_places_and_somewhat_beyond(self):
        for count in (60, 65):
            shape = flat(count + 1)
            found = road_of(MIXED, shape, [(number,) for number in range(count)])
            self.assertEqual(len(found[1]), count)
            self.assertEqual(end(MIXED, found), flat(count + 1, ("b",)))


def turned_at(book, shape, place):
    """The shape with the one turning at this place done, however great what comes may be."""
    for _, left, right in book:
        things = matched(left, part(shape, place))
        if things is not None:
            return with_part(shape, place, filled(right, things))
    raise AssertionError("no use is open there")


class LaidOutTest(unittest.TestCase):
    def check(self, text, expected, book=MIXED):
        with self.subTest(text=text):
            self.assertEqual(check_own(self, laid_out, book, read_way(text)), expected)

    def test_quiet_ways(self):
        for shape in SHAPES:
            self.assertEqual(laid_out(MIXED, shape), [])

    def test_written_out(self):
        self.check("Low", [()])
        self.check("Twice(Low)", [(0,), ()])
        self.check("x(Low,Grow)", [(0,), (1,)])
        self.check("Drop(Twice(Low),Low)", [(0, 0), (0,), (1,), ()])
        self.check("Swap(Low,Grow)", [(0,), (1, 0), ()])
        self.check("f(Mix(Low,Twice(Low),Grow),Low)", [(0, 0, 0), (0, 1, 0), (0, 1), (0, 2), (0,), (1,)])
        self.check("Side(Side(a,b),Long(Side(b,c)))", [(1,), (2, 0) + (0,) * 11, (2, 0), ()], LONG)

    def test_the_places_of_its_uses(self):
        for shape in SHAPES:
            for way in all_ways(MIXED, shape):
                found = laid_out(MIXED, way)
                self.assertEqual(sorted(found), use_places(MIXED, way))
                for number, place in enumerate(found):
                    for later in found[number + 1:]:
                        inside = place[:len(later)] == later
                        self.assertTrue(inside or (place < later and later[:len(place)] != place))

    def test_done_in_this_order_it_comes_to_the_goal(self):
        for shape in SHAPES:
            for way in all_ways(MIXED, shape):
                here = shape
                for place in laid_out(MIXED, way):
                    here = turned_at(MIXED, here, place)
                self.assertEqual(here, goal(MIXED, way))

    def test_none_is_doubled_or_dropped(self):
        for shape in SHAPES:
            for way in all_ways(MIXED, shape)[-8:]:
                left = way
                row = laid_out(MIXED, way)
                for number, place in enumerate(row):
                    self.assertEqual(sorted(row[number:]), use_places(MIXED, left))
                    left = one_step(MIXED, left, place)[1]
                self.assertTrue(is_quiet(left))

    def test_shapes_that_are_not_small_may_come_in_between(self):
        inner = ("x",) + (("Big",),) * 20
        way = ("Cut", ("Twice", inner), ("a",))
        self.assertEqual(laid_out(CUTTING, way)[-2:], [(0,), ()])
        self.assertEqual(len(laid_out(CUTTING, way)), 22)
        with self.assertRaises(TooGreat):
            goal(CUTTING, way[1])

    def test_never_refused(self):
        giant = chain(40, ("a",), "Long")
        with self.assertRaises(TooGreat):
            source(LONG, giant)
        self.assertEqual(laid_out(LONG, giant), [(0,) * (11 * number) for number in range(38, -1, -1)])
        wide = chain(40, ("a",), "Wide")
        with self.assertRaises(TooGreat):
            goal(WIDE, wide)
        self.assertEqual(laid_out(WIDE, wide), [(0,) * number for number in range(38, -1, -1)])


@functools.cache
def all_counts(way):
    """Every count of single ways with which the way of MIXED can be done, by trying all orders."""
    if is_quiet(way):
        return frozenset([0])
    found = set()
    for place in use_places(MIXED, way):
        found.update(count + 1 for count in all_counts(one_step(MIXED, way, place)[1]))
    return frozenset(found)


class OrdersTest(unittest.TestCase):
    def check_all_orders(self, way, expected):
        """Does the way one by one in all orders, each step by the squares and by places."""
        if is_quiet(way):
            self.assertEqual(way, expected)
            return
        self.assertEqual(goal(MIXED, way), expected)
        for place in use_places(MIXED, way):
            single, left = one_step(MIXED, way, place)
            self.assertEqual(behind(MIXED, way, single), left)
            self.check_all_orders(left, expected)

    def test_in_whatever_order_it_comes_to_the_goal(self):
        for text in ("Twice(Low)", "Drop(Low,Grow)", "Swap(Low,Twice(a))", "Twice(Drop(Low,Low))", "Mix(Low,Low,c)"):
            way = read_way(text)
            self.check_all_orders(way, goal(MIXED, way))

    def test_some_orders_of_greater_ways(self):
        chance = chance_of(12)
        for _ in range(20):
            way = random_way(chance, MIXED, random_shape(chance, 5))
            expected = goal(MIXED, way)
            count = 0
            left = way
            while not is_quiet(left):
                left = one_step(MIXED, left, chance.choice(use_places(MIXED, left)))[1]
                count += 1
            self.assertEqual(left, expected)
            self.assertLessEqual(fewest(MIXED, way), count)
            self.assertLessEqual(count, most(MIXED, way))


class FewestAndMostTest(unittest.TestCase):
    def check(self, text, few, many):
        with self.subTest(text=text):
            way = read_way(text)
            self.assertEqual(check_own(self, fewest, MIXED, way), few)
            self.assertEqual(check_own(self, most, MIXED, way), many)

    def test_quiet_and_single_ways(self):
        for shape in SHAPES:
            self.assertEqual((fewest(MIXED, shape), most(MIXED, shape)), (0, 0))
        for text in ("Low", "Grow", "Twice(a)", "Drop(a,c)", "f(a,Low)", "Swap(a,a)"):
            self.check(text, 1, 1)

    def test_doubled(self):
        self.check("Twice(Low)", 2, 3)
        self.check("Twice(Twice(Low))", 3, 7)
        self.check("Twice(f(Low,Low))", 3, 5)
        self.check("Pair(Low)", 2, 3)

    def test_dropped(self):
        self.check("Drop(Low,a)", 1, 2)
        self.check("Drop(a,Low)", 2, 2)
        self.check("Drop(Twice(Low),Low)", 2, 5)
        self.check("Drop(Drop(Low,Low),a)", 1, 4)

    def test_exchanged(self):
        self.check("Swap(Low,Grow)", 3, 3)
        self.check("Swap(Twice(Low),Low)", 4, 5)

    def test_all_at_once(self):
        self.check("Mix(Low,Low,Low)", 3, 5)
        self.check("x(Mix(Twice(Low),Twice(Low),Twice(Low)),Low)", 6, 14)
        self.check("Twice(Drop(Twice(Low),Low))", 3, 11)

    def test_by_trying_all_orders(self):
        tried = 0
        for shape in SHAPES:
            for way in all_ways(MIXED, shape):
                if most(MIXED, way) <= 5:
                    counts = all_counts(way)
                    self.assertEqual((fewest(MIXED, way), most(MIXED, way)), (min(counts), max(counts)))
                    tried += 1
        self.assertGreater(tried, 100)

    def test_many_figures(self):
        wide = chain(40, ("a",), "Wide")
        self.assertEqual(fewest(WIDE, wide), 39)
        self.assertEqual(most(WIDE, wide), (11 ** 39 - 1) // 10)
        self.assertEqual(len(str(most(WIDE, wide))), 40)
        self.assertEqual(most(WIDE, ("Drop", wide[1], wide[1])), 1 + 2 * ((11 ** 38 - 1) // 10))
        self.assertEqual(fewest(WIDE, ("Drop", wide[1], ("a",))), 1)

    def test_a_source_that_is_not_small(self):
        giant = chain(40, ("a",), "Long")
        self.assertEqual((fewest(LONG, giant), most(LONG, giant)), (39, 39))

    def test_fewest_is_at_most_the_uses_and_most_at_least(self):
        chance = chance_of(13)
        for _ in range(40):
            way = random_way(chance, MIXED, random_shape(chance, 6))
            self.assertLessEqual(fewest(MIXED, way), len(uses(MIXED, way)))
            self.assertGreaterEqual(most(MIXED, way), len(uses(MIXED, way)))
            self.assertEqual(fewest(MIXED, way) == 0, is_quiet(way))


if __name__ == "__main__":
    unittest.main()
