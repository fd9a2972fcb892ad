import itertools
import unittest

from asking import check_own
from samples import MIXED, SIZES, WIDE
from things import chain, flat
from turnweave.books import book_of, clash, is_turning
from turnweave.errors import Clash, NoTurning, TurnError
from turnweave.shapes import part, places
from turnweave.sides import blanks, meet
from turnweave.texts import read_turning


def turnings(*texts):
    return [read_turning(text) for text in texts]


EIGHT = turnings(*[f"{title}: {sign}(?0) > x(?0)" for title, sign in zip("ABCDEFGH", "abcdefgh")])
NO_TURNINGS = [
    ("a", ("f", 0), ("g", 0)), ("", ("f", 0), ("g", 0)), ("twice", ("f",), ("g",)), ("TWice", ("f",), ("g",)),
    ("Abcdefghi", ("f",), ("g",)), ("A1", ("f",), ("g",)), ("A b", ("f",), ("g",)), ("A ", ("f",), ("g",)),
    ("\u00c4", ("f",), ("g",)),
    ("A", 0, ("g",)), ("A", 0, 0), ("A", 1, ("g",)),
    ("A", ("f", 1), ("g",)), ("A", ("f", 1, 0), ("g",)), ("A", ("f", 0, 2), ("g",)), ("A", ("f", 0, 0), ("g",)),
    ("A", ("f", 0, ("h", 1), 1), ("g",)), ("A", ("f", 0, ("h", 2), 1), ("g",)), ("A", ("f", ("h", 1), 0), ("g",)),
    ("A", ("f", 1, 2), ("g", 1)), ("A", ("f", 0, 1, 3), ("g", 0)), ("A", ("f", 0, 1, 1), ("g", 0)),
    ("A", ("f",), ("g", 0)), ("A", ("f",), 0), ("A", ("f", 0), 1), ("A", ("f", 0, 1), ("g", 0, ("h", 2))),
    ("A", ("f", 0), ("g", ("h", ("h", 0, 1)))),
    ("A", flat(13), ("g",)), ("A", ("f",), flat(13)), ("A", flat(13), flat(13)), ("A", chain(13), ("g",)),
    ("A", ("f",) + tuple(range(12)), ("g",)), ("A", ("f", 0), flat(13, 0)), ("A", ("f",), chain(13)),
]
TURNINGS = [
    ("A", ("f",), ("g",)), ("Abcdefgh", ("f", 0), ("g", 0)), ("Z", ("f", 0, 1, 2), ("g", 2, 0, 2)),
    ("A", ("f", 0), 0), ("A", ("f", ("h", 0, ("h", 1)), 2), 2), ("A", ("f", 0), ("f", 0)), ("A", ("f", 0), ("a",)),
    ("A", flat(12), flat(12)), ("A", chain(12), ("g",)), ("A", ("f",), chain(12)),
    ("A", ("f",) + tuple(range(11)), ("g",) + tuple(range(10, -1, -1))), ("A", ("f", 0), flat(12, 0)),
    ("A", ("f", ("f", 0)), ("g",)), ("A", ("f", 0, 1), ("f", 1, ("f", 1, 1))),
]


class IsTurningTest(unittest.TestCase):
    def test_turnings(self):
        for turning in TURNINGS + MIXED + SIZES + WIDE + EIGHT:
            with self.subTest(turning=turning):
                self.assertIs(is_turning(turning), True)

    def test_no_turnings(self):
        for thing in NO_TURNINGS:
            with self.subTest(thing=thing):
                self.assertIs(is_turning(thing), False)

    def test_titles(self):
        for title in ("A", "Z", "Ab", "Abcdefgh", "Zzzzzzzz"):
            self.assertIs(is_turning((title, ("f",), ("g",))), True)
        for title in ("", "a", "ab", "aB", "AB", "Abcdefghi", "A\n", "?0", "0", " A"):
            self.assertIs(is_turning((title, ("f",), ("g",))), False)

    def test_all_short_rows_of_blanks(self):
        for count in range(4):
            for row in itertools.product(range(4), repeat=count):
                self.assertIs(is_turning(("A", ("f",) + row, ("g",))), row == tuple(range(count)))
                right = is_turning(("A", ("f", 0, ("h", 1)), ("g",) + row))
                self.assertIs(right, all(number < 2 for number in row))

    def test_each_weight(self):
        for heavy in range(1, 30):
            self.assertIs(is_turning(("A", flat(heavy), ("g",))), heavy <= 12)
            self.assertIs(is_turning(("A", ("g",), flat(heavy))), heavy <= 12)
            self.assertIs(is_turning(("A", ("g", 0), flat(heavy, 0))), heavy <= 12)
            self.assertIs(is_turning(("A", ("f",) + tuple(range(heavy - 1)), ("g",))), heavy <= 12)


class ClashTest(unittest.TestCase):
    def check(self, texts, expected):
        with self.subTest(texts=texts):
            self.assertEqual(check_own(self, clash, turnings(*texts)), expected)

    def test_none(self):
        self.check([], None)
        self.check(["A: a > b"], None)
        self.check(["A: a > b", "B: b > a"], None)
        self.check(["A: f(?0) > b", "B: f(?0,?1) > a", "C: f > a"], None)
        self.check(["A: f(a,?0) > b", "B: f(b,?0) > a"], None)
        self.check(["A: f(g(?0)) > b", "B: f(h(?0)) > a"], None)
        for book in (MIXED, SIZES, WIDE, EIGHT):
            self.assertIsNone(clash(book))

    def test_never_with_itself_at_its_top(self):
        self.check(["A: f(?0) > b"], None)
        self.check(["A: f(?0,?1) > ?0"], None)
        self.check(["A: f(g(?0),?1) > ?0"], None)

    def test_with_itself_below_its_top(self):
        self.check(["A: f(f(?0)) > b"], (0, 0, (0,)))
        self.check(["A: f(?0,f(?1,?2)) > b"], (0, 0, (1,)))
        self.check(["A: f(g(f(?0,?1)),?2) > b"], (0, 0, (0, 0)))
        self.check(["B: b > a", "A: f(h(a),f(h(?0),?1)) > b"], (1, 1, (1,)))

    def test_not_with_itself_where_the_inner_one_does_not_meet(self):
        self.check(["A: f(f(a,?0),b) > b"], None)
        self.check(["A: f(f(?0)) > b", "B: a > b"], (0, 0, (0,)))
        self.check(["A: f(a,f(b,?0)) > b"], None)

    def test_at_the_top_of_another_one(self):
        self.check(["A: a > b", "B: a > c"], (0, 1, ()))
        self.check(["A: f(?0) > b", "B: f(a) > c"], (0, 1, ()))
        self.check(["A: f(a,?0) > b", "B: f(?0,b) > c"], (0, 1, ()))
        self.check(["A: f(a) > b", "B: f(?0) > c"], (0, 1, ()))

    def test_deeper_in_the_first_or_in_the_later_one(self):
        self.check(["A: f(g(?0)) > b", "B: g(a) > c"], (0, 1, (0,)))
        self.check(["B: g(a) > c", "A: f(g(?0)) > b"], (1, 0, (0,)))
        self.check(["A: f(?0,h(b,g(?1))) > b", "B: g(?0) > c"], (0, 1, (1, 1)))
        self.check(["A: f(a) > b", "B: a > c"], (0, 1, (0,)))

    def test_a_blank_is_no_place_of_a_sign(self):
        self.check(["A: f(?0) > b", "B: a > c"], None)
        self.check(["A: f(?0,g(?1)) > b", "B: h(?0) > c"], None)

    def test_right_has_nothing_to_do_with_it(self):
        self.check(["A: a > f(f(a))", "B: b > f(a,b)"], None)

    def test_the_least_k_comes_first(self):
        self.check(["A: a > b", "B: f(f(?0)) > b", "C: h(a) > b"], (1, 1, (0,)))
        self.check(["A: a > b", "C: h(a) > b", "B: f(f(?0)) > b"], (1, 0, (0,)))

    def test_then_the_first_place(self):
        self.check(["A: f(a,b) > x", "B: b > x", "C: a > x"], (0, 2, (0,)))
        self.check(["A: f(g(a),b) > x", "B: b > x", "C: a > x"], (0, 2, (0, 0)))
        self.check(["A: f(g(a),b) > x", "B: a > x", "C: g(?0) > x"], (0, 2, (0,)))
        self.check(["A: f(g(a),b) > x", "B: a > x", "C: g(?0) > x", "D: f(?0,?1) > x"], (0, 3, ()))

    def test_then_the_least_j(self):
        self.check(["A: f(g(a)) > x", "B: g(?0) > x", "C: g(a) > x"], (0, 1, (0,)))
        self.check(["A: f(f(a)) > x", "B: f(?0) > x"], (0, 1, ()))
        self.check(["A: h(?0,h(?1,?2)) > x", "B: h(?0,?1) > x"], (0, 1, ()))
        self.check(["B: z > x", "A: h(y,h(?0,?1)) > x", "C: h(h(?0,?1),?2) > x"], (1, 1, (1,)))
        self.check(["C: h(a,?0) > x", "A: k(h(?0,?1)) > x", "B: h(b,?0) > x"], (1, 0, (0,)))

    def test_told_by_point_5(self):
        lefts = turnings(
            "A: f(?0,a) > x", "B: f(b,?0) > x", "C: f(f(?0,?1),b) > x", "D: a > x", "E: g(f(a,?0)) > x", "G: g(?0) > x",
            "H: f(g(c),c) > x",
        )
        for row in itertools.permutations(lefts, 3):
            self.assertEqual(clash(list(row)), first_clash(row), row)

    def test_longer_lists_and_titles_twice(self):
        self.assertIsNone(clash(EIGHT + turnings("I: i > x", "J: j > x")))
        self.assertIsNone(clash(turnings("A: a > b", "A: b > c")))
        self.assertEqual(clash(EIGHT + turnings("I: i > x", "J: h(i) > x")), (7, 9, ()))


def first_clash(row):
    """The least of all clashes, all of which are told first."""
    found = []
    for k, one in enumerate(row):
        for number, place in enumerate(places(one[1])):
            thing = part(one[1], place)
            for j, other in enumerate(row):
                if not isinstance(thing, int) and meet(thing, other[1]) and (k != j or place != ()):
                    found.append(((k, number, j), (k, j, place)))
    return min(found)[1] if found else None


class BookOfTest(unittest.TestCase):
    def check_refused(self, kind, given):
        with self.subTest(given=given):
            before = repr(given)
            with self.assertRaises(kind):
                book_of(given)
            with self.assertRaises(TurnError):
                book_of(given)
            self.assertEqual(repr(given), before)

    def test_a_new_list_of_the_same_turnings(self):
        for given in ([], TURNINGS[:1], MIXED, SIZES, WIDE, EIGHT):
            found = check_own(self, book_of, list(given))
            self.assertEqual(found, given)
            self.assertIs(type(found), list)

    def test_the_order_stays(self):
        self.assertEqual(book_of(EIGHT[::-1]), EIGHT[::-1])

    def test_each_that_is_no_turning(self):
        for thing in NO_TURNINGS:
            self.check_refused(NoTurning, [thing])
            self.check_refused(NoTurning, [("Other", ("z",), ("y",)), thing])
            self.check_refused(NoTurning, [thing, ("Other", ("z",), ("y",))])

    def test_each_turning_alone(self):
        for turning in TURNINGS:
            if clash([turning]) is None:
                self.assertEqual(book_of([turning]), [turning])

    def test_eight_and_nine(self):
        self.assertEqual(book_of(EIGHT), EIGHT)
        self.check_refused(NoTurning, EIGHT + turnings("I: i(?0) > x"))
        self.check_refused(NoTurning, EIGHT + turnings("I: i(?0) > x", "J: j > x"))

    def test_a_title_twice(self):
        self.check_refused(NoTurning, turnings("A: a > b", "A: b > a"))
        self.check_refused(NoTurning, turnings("A: a > b", "B: c > b", "A: b > a"))
        self.check_refused(NoTurning, turnings("A: a > b", "A: a > b"))

    def test_clash(self):
        self.check_refused(Clash, turnings("A: a > b", "B: a > c"))
        self.check_refused(Clash, turnings("A: f(f(?0)) > b"))
        self.check_refused(Clash, turnings("A: f(g(?0)) > b", "B: g(?0) > b"))
        self.check_refused(Clash, turnings("B: g(?0) > b", "A: f(g(?0)) > b"))
        self.check_refused(Clash, EIGHT[:7] + turnings("I: z(a(?0)) > x"))

    def test_no_turning_ahead_of_clash(self):
        clashing = turnings("A: a > b", "B: a > c")
        self.check_refused(NoTurning, clashing + [("C", 0, ("b",))])
        self.check_refused(NoTurning, [("c", ("d",), ("b",))] + clashing)
        self.check_refused(NoTurning, clashing + turnings("A: d > b"))
        self.check_refused(NoTurning, EIGHT + turnings("I: h(?0) > b"))

    def test_another_count_of_parts_is_another_thing(self):
        given = turnings("A: f > b", "B: f(?0) > b", "C: f(?0,?1) > b", "D: f(?0,?1,?2) > b")
        self.assertEqual(book_of(given), given)

    def test_every_turning_is_one_by_point_4(self):
        for _, left, right in book_of(MIXED):
            self.assertEqual(blanks(left), list(range(len(blanks(left)))))
            self.assertLessEqual(set(blanks(right)), set(blanks(left)))


if __name__ == "__main__":
    unittest.main()
