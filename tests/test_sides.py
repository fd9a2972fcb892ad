import unittest

from asking import check_own
from samples import MIXED, SHAPES
from things import chain, flat
from turnweave.shapes import part, places
from turnweave.sides import blanks, filled, matched, meet
from turnweave.texts import read_side, read_way


class BlanksTest(unittest.TestCase):
    def check(self, text, expected):
        with self.subTest(text=text):
            self.assertEqual(check_own(self, blanks, read_side(text)), expected)

    def test_none(self):
        self.check("a", [])
        self.check("f(a,g(b),c)", [])

    def test_a_blank_alone(self):
        self.check("?0", [0])
        self.check("?7", [7])

    def test_from_left_to_right_at_any_depth(self):
        self.check("f(?0,?1)", [0, 1])
        self.check("f(?1,?0)", [1, 0])
        self.check("f(g(?5,h(?3)),?4,a,g(?0))", [5, 3, 4, 0])
        self.check("f(?9,g(g(?2)),?1)", [9, 2, 1])

    def test_as_often_as_they_stand(self):
        self.check("f(?0,?0)", [0, 0])
        self.check("f(?2,g(?0,?2),?0,?2)", [2, 0, 2, 0, 2])

    def test_many(self):
        self.assertEqual(blanks(("f",) + tuple(range(399))), list(range(399)))
        self.assertEqual(blanks(chain(40, 3)), [3])

    def test_kinds(self):
        found = blanks(("f", 0, ("g", 1)))
        self.assertIs(type(found), list)
        self.assertEqual([type(one) for one in found], [int, int])


class FilledTest(unittest.TestCase):
    def check(self, side, things, expected):
        with self.subTest(side=side, things=things):
            self.assertEqual(check_own(self, filled, side, things), expected)

    def test_shapes(self):
        self.check(("f", 0, ("g", 1)), [("a",), ("h", ("b",))], ("f", ("a",), ("g", ("h", ("b",)))))
        self.check(("f", 1, 0), [("a",), ("b",)], ("f", ("b",), ("a",)))

    def test_a_blank_that_stands_several_times(self):
        self.check(("f", 0, ("g", 0), 0), [("h", ("a",))], ("f", ("h", ("a",)), ("g", ("h", ("a",))), ("h", ("a",))))

    def test_a_blank_that_does_not_stand_at_all(self):
        self.check(("f", 2, ("a",)), [("x",), ("y",), ("z",)], ("f", ("z",), ("a",)))
        self.check(("f", ("a",)), [("x",)], ("f", ("a",)))

    def test_a_list_longer_than_needed(self):
        self.check(("f", 0), [("a",), ("b",), ("c",)], ("f", ("a",)))
        self.check(("a",), [("a",), ("b",)], ("a",))

    def test_no_blanks_and_no_things(self):
        self.check(("f", ("a",), ("g", ("b",))), [], ("f", ("a",), ("g", ("b",))))

    def test_a_blank_alone(self):
        self.check(0, [("g", ("a",))], ("g", ("a",)))
        self.check(2, [("a",), ("b",), ("c",)], ("c",))

    def test_sides(self):
        self.check(("f", 0, 1), [1, 0], ("f", 1, 0))
        self.check(("f", 0, ("g", 1)), [("h", 1, 0), 7], ("f", ("h", 1, 0), ("g", 7)))
        self.check(1, [0, 0], 0)

    def test_ways(self):
        self.check(("f", 1, 0), [("Up", ("a",)), ("g", ("Low",))], ("f", ("g", ("Low",)), ("Up", ("a",))))

    def test_the_own_example(self):
        self.assertEqual(filled(read_side("f(?0,?0)"), [read_way("Twice(b)")]), read_way("f(Twice(b),Twice(b))"))


class MatchedTest(unittest.TestCase):
    def check(self, left, thing, expected):
        with self.subTest(left=left, thing=thing):
            left = read_side(left)
            thing = read_way(thing)
            found = check_own(self, matched, left, thing)
            self.assertEqual(found, None if expected is None else [read_way(text) for text in expected])
            if found is not None:
                self.assertIs(type(found), list)
                self.assertEqual(filled(left, found), thing)

    def test_shapes(self):
        self.check("g(?0)", "g(a)", ["a"])
        self.check("g(?0)", "g(g(a))", ["g(a)"])
        self.check("f(?0,?1)", "f(h(a),b)", ["h(a)", "b"])
        self.check("f(?0,g(?1,h(?2)),?3)", "f(a,g(b,h(c)),d)", ["a", "b", "c", "d"])
        self.check("f(a,?0)", "f(a,f(a,b))", ["f(a,b)"])

    def test_ways(self):
        self.check("g(?0)", "g(Twice(a))", ["Twice(a)"])
        self.check("f(h(?0),?1)", "f(h(Low),g(Low))", ["Low", "g(Low)"])

    def test_a_title_is_no_sign(self):
        self.check("g(?0)", "Twice(a)", None)
        self.check("f(g(?0))", "f(Twice(a))", None)
        self.check("a", "Low", None)

    def test_another_sign(self):
        self.check("g(?0)", "h(a)", None)
        self.check("f(?0,h(?1))", "f(a,g(b))", None)
        self.check("f(h(g(?0)))", "f(h(h(a)))", None)
        self.check("f(?0,a)", "f(a,b)", None)
        self.check("f(a,?0)", "f(b,a)", None)

    def test_another_count_of_parts(self):
        self.check("g(?0)", "g", None)
        self.check("g(?0)", "g(a,b)", None)
        self.check("g", "g(a)", None)
        self.check("f(?0,h(?1))", "f(a,h)", None)
        self.check("f(?0,h(?1))", "f(a,h(b,c))", None)
        self.check("f(h(k(?0,?1)))", "f(h(k(a)))", None)
        self.check("f(?0,?1)", "f(a)", None)
        self.check("f(?0,?1)", "f(a,b,c)", None)

    def test_without_blanks(self):
        self.check("a", "a", [])
        self.check("f(a,g(b))", "f(a,g(b))", [])
        self.check("a", "b", None)
        self.check("f(a,g(b))", "f(a,g(c))", None)
        self.check("f(a,g(b))", "f(b,g(b))", None)

    def test_every_left_against_every_part(self):
        for _, left, _ in MIXED:
            for shape in SHAPES:
                for place in places(shape):
                    thing = part(shape, place)
                    found = matched(left, thing)
                    if found is not None:
                        self.assertEqual(len(found), len(blanks(left)))
                        self.assertEqual(filled(left, found), thing)
                    self.assertEqual(found is None, not meet(left, thing))

    def test_what_comes_of_a_left_is_matched(self):
        for _, left, _ in MIXED:
            things = [SHAPES[number] for number in range(len(blanks(left)))]
            self.assertEqual(matched(left, filled(left, things)), things)

    def test_greatest(self):
        self.assertEqual(matched(("f",) + tuple(range(11)), flat(12)), [("a",)] * 11)
        self.assertEqual(matched(("f", 0), chain(40)), [chain(39)])


class MeetTest(unittest.TestCase):
    def check(self, one, other, expected):
        with self.subTest(one=one, other=other):
            self.assertIs(check_own(self, meet, read_side(one), read_side(other)), expected)
            self.assertIs(meet(read_side(other), read_side(one)), expected)

    def test_at_the_top(self):
        self.check("a", "a", True)
        self.check("a", "b", False)
        self.check("a", "a(b)", False)
        self.check("f(?0)", "f(?0)", True)
        self.check("f(?0)", "f(?0,?1)", False)
        self.check("f(?0)", "g(?0)", False)

    def test_deeper(self):
        self.check("f(g(?0),?1)", "f(?0,h(?1))", True)
        self.check("f(g(?0),a)", "f(?0,b)", False)
        self.check("f(a,g(?0))", "f(a,g(h(?0)))", True)
        self.check("f(a,g(k(?0)))", "f(a,g(h(?0)))", False)
        self.check("f(a,g(h(?0)))", "f(a,g(h(?0,?1)))", False)
        self.check("f(g(h(a)),b)", "f(g(h(?0)),?1)", True)
        self.check("f(b,?0)", "f(a,?0)", False)
        self.check("f(?0,b,?1)", "f(?0,a,?1)", False)

    def test_a_blank_against_a_sign(self):
        self.check("f(?0)", "f(a)", True)
        self.check("f(?0,?1)", "f(g(a),h(b))", True)
        self.check("f(?0,a)", "f(a,?0)", True)

    def test_a_blank_alone(self):
        for other in ("?0", "?1", "a", "f(?0,g(a))"):
            self.check("?0", other, True)

    def test_the_same_number_in_both_has_nothing_to_do(self):
        self.check("f(?0,g(?1))", "f(g(?1),?0)", True)
        self.check("f(?0)", "f(g(?0))", True)
        self.check("f(?0,?1)", "f(?1,?0)", True)

    def test_told_by_shapes_that_come_of_both(self):
        sides = [read_side(text) for text in (
            "?0", "a", "b", "f(?0,?1)", "f(a,?0)", "f(?0,b)", "f(f(?0,?1),a)", "f(?1,f(a,?0))", "f(a)", "f(?3)",
            "f(f(a),?0)", "f(f(?0),?1)", "f(b,b)", "f(f(a,b),f(b,a))",
        )]
        shapes = [("a",), ("b",)]
        for _ in range(2):
            tops = list(shapes)
            shapes = [("a",), ("b",)] + [("f", one) for one in tops] + [("f", one, two) for one in tops for two in tops]
        coming = [{shape for shape in shapes if comes_of(side, shape)} for side in sides]
        for one, mine in zip(sides, coming):
            for other, yours in zip(sides, coming):
                self.assertIs(meet(one, other), bool(mine & yours), (one, other))


def comes_of(side, shape):
    """Whether the shape is the side with its blanks filled, told sign by sign."""
    for place in places(side):
        thing = part(side, place)
        if place in places(shape):
            there = part(shape, place)
            if not isinstance(thing, int) and (thing[0], len(thing)) != (there[0], len(there)):
                return False
        else:
            return False
    return True


if __name__ == "__main__":
    unittest.main()
