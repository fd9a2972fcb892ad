import unittest

from things import chain, chain_and_flat, flat
from turnweave.errors import NoPlace, TurnError
from turnweave.shapes import depth, is_small, part, places, weight, with_part

NESTED = ("f", ("g", ("a",), 3, ("Up", 0, ("b",))), 1, ("Twice", ("h", ("c",)), ("d",)), ("e",))
NESTED_PLACES = [
    (), (0,), (0, 0), (0, 1), (0, 2), (0, 2, 0), (0, 2, 1), (1,), (2,), (2, 0), (2, 0, 0), (2, 1), (3,),
]


class WeightAndDepthTest(unittest.TestCase):
    def check(self, thing, heavy, deep):
        self.assertEqual(weight(thing), heavy)
        self.assertIs(type(weight(thing)), int)
        self.assertEqual(depth(thing), deep)
        self.assertIs(type(depth(thing)), int)

    def test_one_alone(self):
        for thing in (0, 5, 10 ** 30, ("a",), ("abcdefgh",), ("Up",)):
            with self.subTest(thing=thing):
                self.check(thing, 1, 1)

    def test_one_part(self):
        for thing in (("f", 0), ("f", ("a",)), ("f", ("Up",)), ("Up", 0), ("Up", ("a",)), ("Up", ("Up",))):
            with self.subTest(thing=thing):
                self.check(thing, 2, 2)

    def test_flat(self):
        self.check(("f", ("a",), 0, ("Up",), ("a",), 0), 6, 2)
        self.check(("Up", 0, 0, 0), 4, 2)

    def test_nested(self):
        self.check(NESTED, 13, 4)

    def test_the_deepest_part_counts_wherever_it_stands(self):
        deep = ("g", ("g", ("Up", 0)))
        for thing in (("f", deep, ("a",), 0), ("f", ("a",), deep, 0), ("f", ("a",), 0, deep)):
            with self.subTest(thing=thing):
                self.check(thing, 7, 5)

    def test_the_same_part_counts_each_time(self):
        twin = ("g", ("a",), 0)
        self.check(("f", twin, ("h", twin, twin)), 11, 4)

    def test_beyond_small(self):
        for leaf in (("a",), 0, ("Up",)):
            for head in ("f", "Up"):
                with self.subTest(leaf=leaf, head=head):
                    self.check(chain(100, leaf, head), 100, 100)
                    self.check(flat(2000, leaf, head), 2000, 2)
                    self.check(chain_and_flat(100, 2000, leaf, head), 2000, 100)
        self.check(("f",) + (chain(99),) * 20, 1981, 100)

    def test_somewhat_beyond_what_is_handed_in(self):
        self.check(chain_and_flat(150, 2500), 2500, 150)


class SmallTest(unittest.TestCase):
    def test_small(self):
        for thing in (0, 99, ("a",), ("Up",), NESTED, chain(40), flat(400), chain_and_flat(40, 400)):
            with self.subTest(thing=thing):
                self.assertIs(is_small(thing), True)

    def test_small_with_titles_and_blanks(self):
        for leaf in (0, ("Up",)):
            for head in ("f", "Up"):
                with self.subTest(leaf=leaf, head=head):
                    self.assertIs(is_small(chain_and_flat(40, 400, leaf, head)), True)
                    self.assertIs(is_small(chain_and_flat(40, 401, leaf, head)), False)
                    self.assertIs(is_small(chain_and_flat(41, 400, leaf, head)), False)

    def test_too_heavy(self):
        for thing in (flat(401), chain_and_flat(40, 401), flat(2000), ("f",) + (chain(10),) * 40):
            with self.subTest(heavy=weight(thing)):
                self.assertIs(is_small(thing), False)

    def test_too_deep(self):
        for thing in (chain(41), chain_and_flat(41, 400), chain(100), ("f", ("a",), chain(40), 0)):
            with self.subTest(deep=depth(thing)):
                self.assertIs(is_small(thing), False)

    def test_too_heavy_and_too_deep(self):
        self.assertIs(is_small(chain_and_flat(41, 401)), False)
        self.assertIs(is_small(chain_and_flat(100, 2000)), False)


class PlacesTest(unittest.TestCase):
    def test_one_alone(self):
        for thing in (0, 12, ("a",), ("Up",)):
            with self.subTest(thing=thing):
                self.assertEqual(places(thing), [()])

    def test_order(self):
        self.assertEqual(places(NESTED), NESTED_PLACES)

    def test_more_than_ten_parts_stand_in_order(self):
        self.assertEqual(places(flat(13)), [()] + [(number,) for number in range(12)])

    def test_greatest_things(self):
        self.assertEqual(places(chain(40)), [(0,) * length for length in range(40)])
        found = places(chain_and_flat(40, 400))
        self.assertEqual(len(found), 400)
        self.assertEqual(found, sorted(set(found)))

    def test_kinds(self):
        found = places(NESTED)
        self.assertIs(type(found), list)
        for place in found:
            self.assertIs(type(place), tuple)

    def test_each_list_is_a_new_one(self):
        for thing in (0, ("a",), NESTED):
            with self.subTest(thing=thing):
                first = places(thing)
                second = places(thing)
                self.assertIsNot(first, second)
                expected = list(first)
                first.append("strange")
                first[0] = "strange"
                self.assertEqual(second, expected)
                self.assertEqual(places(thing), expected)


class PartTest(unittest.TestCase):
    def test_at_each_place(self):
        expected = [
            NESTED, ("g", ("a",), 3, ("Up", 0, ("b",))), ("a",), 3, ("Up", 0, ("b",)), 0, ("b",), 1,
            ("Twice", ("h", ("c",)), ("d",)), ("h", ("c",)), ("c",), ("d",), ("e",),
        ]
        for place, thing in zip(NESTED_PLACES, expected, strict=True):
            with self.subTest(place=place):
                self.assertEqual(part(NESTED, place), thing)

    def test_top_of_one_alone(self):
        for thing in (0, 7, ("a",), ("Up",)):
            with self.subTest(thing=thing):
                self.assertEqual(part(thing, ()), thing)

    def test_deepest(self):
        self.assertEqual(part(chain(40, 5), (0,) * 39), 5)
        self.assertEqual(part(chain(40, 5), (0,) * 38), ("f", 5))

    def test_last_part(self):
        self.assertEqual(part(("f", ("a",), ("b",), ("c",)), (2,)), ("c",))


class WithPartTest(unittest.TestCase):
    def test_at_each_place(self):
        for other in (("new", ("n",), 9), ("n",), ("Up", ("n",)), 42):
            for place in NESTED_PLACES:
                with self.subTest(place=place, other=other):
                    self.check_changed(NESTED, place, other)

    def check_changed(self, thing, place, other):
        before = repr(thing)
        changed = with_part(thing, place, other)
        self.assertEqual(repr(thing), before)
        self.assertEqual(part(changed, place), other)
        outside = [spot for spot in places(thing) if spot[:len(place)] != place]
        inside = [place + spot for spot in places(other)]
        self.assertEqual(sorted(places(changed)), sorted(outside + inside))
        for spot in outside:
            self.check_kept(part(thing, spot), part(changed, spot), above=place[:len(spot)] == spot)

    def check_kept(self, old, new, above):
        if above:
            self.assertEqual((old[0], len(old)), (new[0], len(new)))
        else:
            self.assertEqual(old, new)

    def test_written_out(self):
        self.assertEqual(with_part(("f", ("a",), ("b",), ("c",)), (0,), 1), ("f", 1, ("b",), ("c",)))
        self.assertEqual(with_part(("f", ("a",), ("b",), ("c",)), (1,), 1), ("f", ("a",), 1, ("c",)))
        self.assertEqual(with_part(("f", ("a",), ("b",), ("c",)), (2,), 1), ("f", ("a",), ("b",), 1))
        self.assertEqual(
            with_part(("f", ("g", 0, ("Up", 1)), 2), (0, 1, 0), ("h", ("a",))),
            ("f", ("g", 0, ("Up", ("h", ("a",)))), 2),
        )

    def test_only_the_one_place_of_twins(self):
        twin = ("g", ("a",))
        self.assertEqual(with_part(("f", twin, twin), (1, 0), ("b",)), ("f", twin, ("g", ("b",))))

    def test_top(self):
        for thing in (0, ("a",), ("Up",), NESTED):
            for other in (3, ("b",), ("g", ("Up", 0))):
                with self.subTest(thing=thing, other=other):
                    self.assertEqual(with_part(thing, (), other), other)

    def test_the_thing_itself_put_back(self):
        for place in NESTED_PLACES:
            with self.subTest(place=place):
                self.assertEqual(with_part(NESTED, place, part(NESTED, place)), NESTED)

    def test_kinds(self):
        for place in NESTED_PLACES[1:]:
            changed = with_part(NESTED, place, ("n",))
            for spot in places(changed):
                self.assertIn(type(part(changed, spot)), (tuple, int))


class NoPlaceTest(unittest.TestCase):
    def check_refused(self, thing, place):
        with self.subTest(thing=thing, place=place):
            before = repr(thing)
            with self.assertRaises(NoPlace):
                part(thing, place)
            with self.assertRaises(NoPlace):
                with_part(thing, place, ("n",))
            self.assertEqual(repr(thing), before)

    def test_all_short_tuples_that_are_no_places(self):
        numbers = [-5, -2, -1, 0, 1, 2, 3, 4, 5]
        tuples = [(one,) for one in numbers]
        tuples += [(one, two) for one in numbers for two in numbers]
        tuples += [(one, two, three) for one in numbers for two in numbers for three in numbers]
        for place in tuples:
            if place not in NESTED_PLACES:
                self.check_refused(NESTED, place)

    def test_below_nought(self):
        for number in (-1, -2, -3, -4, -10 ** 40):
            for behind in ((), (0,), (0, 0), (-1,)):
                self.check_refused(("f", ("g", ("a",)), ("g", ("a",))), (number,) + behind)
                self.check_refused(("f", ("g", ("a",)), ("g", ("a",))), (1, number) + behind)

    def test_beyond_the_last_part(self):
        for number in (2, 3, 10 ** 40):
            for behind in ((), (0,), (0, 0), (1,)):
                self.check_refused(("f", ("g", ("a",)), ("g", ("a",))), (number,) + behind)
                self.check_refused(("f", ("g", ("a",)), ("g", ("a",))), (0, number) + behind)

    def test_within_what_has_no_parts(self):
        for leaf in (0, 1, 17, ("a",), ("abc",), ("Up",)):
            for place in ((0,), (1,), (-1,), (0, 0), (0, 1, 2)):
                self.check_refused(leaf, place)
                self.check_refused(("f", leaf), (0,) + place)
                self.check_refused(("Up", ("b",), leaf), (1,) + place)

    def test_one_below_the_deepest(self):
        self.check_refused(chain(40), (0,) * 40)
        self.check_refused(chain(40, 0), (0,) * 40)

    def test_numbers_of_very_many_figures(self):
        self.check_refused(("f", ("a",)), (10 ** 5000,))
        self.check_refused(("f", ("a",)), (-10 ** 5000, 0))

    def test_very_long_places(self):
        self.check_refused(NESTED, (0,) * 5000)

    def test_is_a_turn_error(self):
        with self.assertRaises(TurnError):
            part(("a",), (0,))


if __name__ == "__main__":
    unittest.main()
