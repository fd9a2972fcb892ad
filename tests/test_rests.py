import unittest

from asking import check_own
from samples import CUTTING, MIXED, SHAPES, SIZES, all_roads, book, chance_of, random_road, random_shape
from things import chain, flat
from turnweave.errors import TooGreat, TurnError
from turnweave.rests import rounds
from turnweave.roads import end, is_road, within
from turnweave.shapes import weight
from turnweave.texts import read_way
from turnweave.uses import full_way, open_uses

SPIN = book("Spin: c > c", "Low: a > b")
# Every shape comes to rest.
ENDING = book("Twice: g(?0) > f(?0,?0)", "Drop: k(?0,?1) > ?1", "Swap: s(?0,m(?1)) > t(?1,?0)", "Low: a > b", "High: b > d")


class RoundsTest(unittest.TestCase):
    def check(self, text, limit, ways, rest, book=MIXED):
        with self.subTest(text=text, limit=limit):
            shape = read_way(text)
            found = check_own(self, rounds, book, shape, limit)
            self.assertEqual(found, ((shape, [read_way(way) for way in ways]), rest))
            self.assertIs(type(found), tuple)
            self.assertIs(found[1], rest)
            self.assertTrue(is_road(book, found[0]))

    def test_at_rest_from_the_start(self):
        for limit in (0, 1, 20):
            self.check("b", limit, [], True)
            self.check("f(b,x(y))", limit, [], True)
            self.check("a", limit, [], True, [])

    def test_a_limit_of_nought(self):
        self.check("a", 0, [], False)
        self.check("b", 0, [], True)

    def test_rest_is_reached(self):
        self.check("a", 1, ["Low"], True)
        self.check("a", 20, ["Low"], True)
        self.check("g(f(d,b))", 3, ["Twice(Pair(b))", "f(Drop(b,Twice(b)),Drop(b,Twice(b)))"], True)
        self.check("g(a)", 5, ["Twice(Low)"], True)
        self.check("f(d,b)", 20, ["Pair(b)", "Drop(b,Twice(b))"], True)

    def test_rest_is_reached_at_the_limit_or_just_not(self):
        self.check("f(d,b)", 2, ["Pair(b)", "Drop(b,Twice(b))"], True)
        self.check("f(d,b)", 1, ["Pair(b)"], False)
        self.check("f(d,b)", 0, [], False)

    def test_rest_is_never_reached(self):
        self.check("c", 3, ["Spin"] * 3, False, SPIN)
        self.check("c", 20, ["Spin"] * 20, False, SPIN)
        self.check("f(a,c)", 2, ["f(Low,Spin)", "f(b,Spin)"], False, SPIN)
        self.check("c", 2, ["Grow", "Twice(Grow)"], False)

    def test_somewhat_beyond_twenty(self):
        self.check("c", 25, ["Spin"] * 25, False, SPIN)

    def test_full_ways_one_behind_the_other(self):
        chance = chance_of(17)
        for shape in SHAPES + [random_shape(chance, 5) for _ in range(20)]:
            (start, ways), rest = rounds(ENDING, shape, 20)
            here = shape
            self.assertEqual(start, shape)
            for number, way in enumerate(ways):
                self.assertEqual(way, full_way(ENDING, here))
                self.assertNotEqual(open_uses(ENDING, here), [])
                here = end(ENDING, (shape, ways[:number + 1]))
            self.assertIs(rest, open_uses(ENDING, here) == [])
            self.assertTrue(rest)

    def test_too_great(self):
        for shape in (("d", flat(399)), ("d", chain(39))):
            with self.assertRaises(TooGreat):
                rounds(SIZES, shape, 1)
            with self.assertRaises(TurnError):
                rounds(SIZES, shape, 20)
            self.assertEqual(rounds(SIZES, shape, 0), ((shape, []), False))
        self.assertEqual(weight(end(SIZES, rounds(SIZES, ("d", flat(398)), 1)[0])), 400)

    def test_too_great_in_a_later_round(self):
        with self.assertRaises(TooGreat):
            rounds(MIXED, ("c",), 20)
        self.assertEqual(len(rounds(MIXED, ("c",), 6)[0][1]), 6)
        shape = ("f", ("g", ("x",) + (("y",),) * 20), ("a",))
        with self.assertRaises(TooGreat):
            rounds(CUTTING, shape[1], 1)
        with self.assertRaises(TooGreat):
            rounds(CUTTING, shape, 2)


class WithinRoundsTest(unittest.TestCase):
    def test_each_road_within_as_many_rounds(self):
        for text in ("g(a)", "k(a,c)", "f(d,a)", "s(c,m(a))"):
            shape = read_way(text)
            for count in range(3):
                full, rest = rounds(MIXED, shape, count)
                self.assertTrue(rest or len(full[1]) == count)
                for one in all_roads(MIXED, shape, count)[::3]:
                    self.assertTrue(within(MIXED, one, full))

    def test_where_rest_is_reached_each_road_is_within(self):
        chance = chance_of(18)
        for shape in SHAPES:
            full, rest = rounds(ENDING, shape, 20)
            self.assertTrue(rest)
            for count in (1, 2, 4, 7):
                one = random_road(chance, ENDING, shape, count)
                self.assertTrue(within(ENDING, one, full))

    def test_one_rest_from_the_end_of_every_road(self):
        chance = chance_of(19)
        for shape in SHAPES:
            full, _ = rounds(ENDING, shape, 20)
            for count in (1, 2, 4, 7):
                one = random_road(chance, ENDING, shape, count)
                later, rest = rounds(ENDING, end(ENDING, one), 20)
                self.assertTrue(rest)
                self.assertEqual(end(ENDING, later), end(ENDING, full))
                self.assertLessEqual(len(later[1]), len(full[1]))


if __name__ == "__main__":
    unittest.main()
