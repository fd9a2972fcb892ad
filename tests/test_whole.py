"""What holds of the whole program: other texts, a greater shape around, a turning more."""

import unittest

from samples import CUTTING, MIXED, SHAPES, chance_of, random_road, random_way
from turnweave.books import book_of, clash
from turnweave.desk import Desk
from turnweave.errors import TooGreat, TurnError
from turnweave.rests import rounds
from turnweave.roads import alike, end, grid, is_road, road_behind, road_joined, within
from turnweave.shapes import depth, is_small, part, places, weight
from turnweave.sides import blanks, filled, matched
from turnweave.singles import fewest, laid_out, most, road_of
from turnweave.squares import behind, joined, shared
from turnweave.standard import standard
from turnweave.texts import is_sign, is_title, read_turning, read_way, shown, shown_turning
from turnweave.uses import full_way, open_uses, uses, way_of
from turnweave.valleys import valley
from turnweave.ways import goal, is_quiet, is_way, source

LETTERS = "abcdefghijklmnopqrstuvwxyz"


def renamed_text(text):
    """Other texts for all signs and titles, one to one: each letter gives way to the one as far from the other end."""
    if is_sign(text) or is_title(text):
        small = "".join(LETTERS[25 - LETTERS.index(letter)] for letter in text.lower())
        return small if is_sign(text) else small[0].upper() + small[1:]
    return text


def renamed(thing):
    if isinstance(thing, str):
        return renamed_text(thing)
    if isinstance(thing, (tuple, list)):
        return type(thing)(renamed(one) for one in thing)
    return thing


def answer(ask, *given):
    """What is told, or the kind of refusal."""
    try:
        return ask(*given)
    except TurnError as error:
        return type(error)


def questions(book, number):
    """Many questions about the book, with what they are asked of."""
    chance = chance_of(number)
    found = []
    for shape in SHAPES:
        way, other = [random_way(chance, book, shape) for _ in range(2)]
        one, two = [random_road(chance, book, shape, 2) for _ in range(2)]
        found += [(ask, (shape,)) for ask in (open_uses, full_way)]
        found += [(ask, (way,)) for ask in (is_way, source, goal, uses, laid_out, fewest, most)]
        found += [(ask, (way, other)) for ask in (behind, joined, shared)]
        found += [(ask, (one,)) for ask in (is_road, end, standard)]
        found += [(ask, (one, two)) for ask in (grid, road_behind, road_joined, within, alike)]
        found += [(behind, (way, SHAPES[0])), (alike, (one, (SHAPES[0], []))), (way_of, (shape, [()]))]
        found += [(rounds, (shape, 3)), (road_of, (shape, [place for place, _ in open_uses(book, shape)][::-1]))]
        found += [(valley, (shape, [(way, True), (other, False)])), (valley, (shape, [(way, True), (way, False)]))]
        found += [(valley, (goal(book, way), [(way, False), (other, True)]))]
    return found


class OtherTextsTest(unittest.TestCase):
    def test_one_to_one(self):
        texts = ["a", "b", "z", "ab", "twice", "Twice", "A", "Zz"]
        self.assertEqual([renamed_text(renamed_text(text)) for text in texts], texts)
        self.assertFalse(set(texts) & {renamed_text(text) for text in texts[3:6]})

    def test_they_change_nothing_but_the_texts(self):
        for book in (MIXED, CUTTING):
            other_book = book_of(renamed(book))
            for ask, given in questions(book, 21):
                expected = renamed(answer(ask, book, *given))
                self.assertEqual(answer(ask, other_book, *renamed(given)), expected, (ask.__name__, given))

    def test_shapes_sides_and_books(self):
        self.assertEqual(book_of(renamed(MIXED)), renamed(MIXED))
        clashing = MIXED + [read_turning("More: x(k(?0,?1)) > x(?0)")]
        self.assertEqual(clash(clashing), (7, 1, (0,)))
        self.assertEqual(clash(renamed(clashing)), (7, 1, (0,)))
        for shape in SHAPES:
            other = renamed(shape)
            self.assertEqual((weight(other), depth(other), is_small(other)), (weight(shape), depth(shape), is_small(shape)))
            self.assertEqual(places(other), places(shape))
            self.assertEqual(read_way(shown(other)), other)
            for _, left, right in MIXED:
                self.assertEqual(matched(renamed(left), other), renamed(matched(left, shape)))
                things = [shape] * len(blanks(left))
                self.assertEqual(filled(renamed(right), renamed(things)), renamed(filled(right, things)))

    def test_the_desk(self):
        one = Desk()
        two = Desk()
        for turning in MIXED:
            self.assertEqual(one.say("turn " + shown_turning(turning)), two.say("turn " + shown_turning(renamed(turning))))
        chance = chance_of(22)
        for shape in SHAPES:
            way = random_way(chance, MIXED, shape)
            for name in ("x", "y"):
                one.say(f"start {name} " + shown(shape))
                two.say(f"start {name} " + shown(renamed(shape)))
            one.say("go x " + shown(way))
            two.say("go x " + shown(renamed(way)))
            for row in ("within x y", "within y x", "alike x y", "standard x"):
                self.assertEqual(one.say(row), two.say(row))
            self.assertEqual(read_way(two.say("end x")), renamed(read_way(one.say("end x"))))
            self.assertEqual([renamed_use(use) for use in one.say("open x").split(" ")], two.say("open x").split(" "))

    def test_a_name_is_free(self):
        desk = Desk()
        for name in ("x", "quite", "zzzzzzzz"):
            self.assertEqual(desk.say(f"start {name} a"), "ok")
            self.assertEqual(desk.say("show " + name), "a")


def renamed_use(text):
    place, colon, title = text.partition(":")
    return place + colon + renamed_text(title)


class GreaterShapeTest(unittest.TestCase):
    def around(self, way):
        return ("q", ("r",), way, ("r", ("o",)))

    def around_road(self, road):
        return (self.around(road[0]), [self.around(way) for way in road[1]])

    def below(self, spots):
        return [(1,) + place for place in spots]

    def test_uses_and_ways(self):
        for shape in SHAPES:
            way = random_way(chance_of(23), MIXED, shape)
            for ask, thing in ((open_uses, shape), (uses, way)):
                expected = [((1,) + place, title) for place, title in ask(MIXED, thing)]
                self.assertEqual(ask(MIXED, self.around(thing)), expected)
            for ask in (source, goal, full_way):
                thing = shape if ask == full_way else way
                self.assertEqual(ask(MIXED, self.around(thing)), self.around(ask(MIXED, thing)))
            self.assertEqual(laid_out(MIXED, self.around(way)), self.below(laid_out(MIXED, way)))
            self.assertEqual(fewest(MIXED, self.around(way)), fewest(MIXED, way))
            self.assertEqual(most(MIXED, self.around(way)), most(MIXED, way))
            self.assertIs(is_quiet(self.around(way)), is_quiet(way))

    def test_squares_and_roads(self):
        chance = chance_of(24)
        for shape in SHAPES:
            way, other = [random_way(chance, MIXED, shape) for _ in range(2)]
            for ask in (behind, joined, shared):
                expected = self.around(ask(MIXED, way, other))
                self.assertEqual(ask(MIXED, self.around(way), self.around(other)), expected)
            one, two = [random_road(chance, MIXED, shape, 2) for _ in range(2)]
            for ask in (road_behind, road_joined):
                expected = self.around_road(ask(MIXED, one, two))
                self.assertEqual(ask(MIXED, self.around_road(one), self.around_road(two)), expected)
            for ask in (within, alike):
                self.assertIs(ask(MIXED, self.around_road(one), self.around_road(two)), ask(MIXED, one, two))
            self.assertEqual(standard(MIXED, self.around_road(one)), self.below(standard(MIXED, one)))

    def test_rests_and_valleys(self):
        chance = chance_of(25)
        for shape in SHAPES:
            road, rest = rounds(MIXED, shape, 2)
            self.assertEqual(rounds(MIXED, self.around(shape), 2), (self.around_road(road), rest))
            way, other = [random_way(chance, MIXED, shape) for _ in range(2)]
            first, second = valley(MIXED, goal(MIXED, way), [(way, False), (other, True)])
            steps = [(self.around(way), False), (self.around(other), True)]
            found = valley(MIXED, self.around(goal(MIXED, way)), steps)
            self.assertEqual(found, (self.around_road(first), self.around_road(second)))

    def test_what_stands_beside_is_left_alone(self):
        for shape in SHAPES:
            found = goal(MIXED, full_way(MIXED, self.around(shape)))
            self.assertEqual(part(found, (0,)), ("r",))
            self.assertEqual(part(found, (2,)), ("r", ("o",)))


class TurningMoreTest(unittest.TestCase):
    def test_a_turning_more_that_nothing_has_changes_nothing(self):
        more = read_turning("More: o(?0,y) > y")
        for number in (0, 3, len(MIXED)):
            longer = book_of(MIXED[:number] + [more] + MIXED[number:])
            for ask, given in questions(MIXED, 26):
                self.assertEqual(answer(ask, longer, *given), answer(ask, MIXED, *given), (ask.__name__, given))

    def test_the_order_of_the_book_changes_nothing(self):
        for ask, given in questions(MIXED, 27):
            self.assertEqual(answer(ask, MIXED[::-1], *given), answer(ask, MIXED, *given))


class PromiseTest(unittest.TestCase):
    def test_roads_alike_are_told_as_one_row(self):
        chance = chance_of(28)
        for shape in SHAPES:
            road = random_road(chance, MIXED, shape, 2)
            whole = (shape, [])
            for way in road[1]:
                whole = (shape, whole[1] + road_of(MIXED, end(MIXED, whole), laid_out(MIXED, way))[1])
            self.assertTrue(alike(MIXED, road, whole))
            self.assertEqual(standard(MIXED, road), standard(MIXED, whole))

    def test_what_would_be_too_great_is_refused(self):
        here = ("c",)
        count = 0
        following = answer(goal, MIXED, full_way(MIXED, here))
        while following != TooGreat:
            here = following
            count += 1
            following = answer(goal, MIXED, full_way(MIXED, here))
        self.assertEqual(answer(rounds, MIXED, ("c",), count + 1), TooGreat)
        self.assertEqual(end(MIXED, rounds(MIXED, ("c",), count)[0]), here)


if __name__ == "__main__":
    unittest.main()
