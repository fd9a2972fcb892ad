import unittest

from things import chain, flat
from turnweave.desk import Desk
from turnweave.errors import Apart, Clash, NoName, NoRow, NoText, NoTurning, NoUse, NoWay, TooGreat, TurnError
from turnweave.texts import shown

TURNINGS = (
    "Twice: g(?0) > f(?0,?0)", "Drop: k(?0,?1) > ?1", "Low: a > b", "Grow: c > g(c)", "Up: d(?0) > e(e(?0))",
    "Down: i(j(?0)) > d(?0)",
)
ASKING = ("end", "show", "open", "standard", "rest")
OF_TWO = ("within", "alike")
NEW_OF_TWO = ("behind", "join")


def desk_with(*rows):
    desk = Desk()
    for turning in TURNINGS:
        desk.say("turn " + turning)
    for row in rows:
        desk.say(row)
    return desk


class DeskTest(unittest.TestCase):
    def check(self, desk, row, expected):
        with self.subTest(row=row):
            self.assertEqual(desk.say(row), expected)
            self.assertIs(type(expected), str)

    def check_ok(self, desk, *rows):
        for row in rows:
            self.check(desk, row, "ok")

    def check_refused(self, desk, kind, row):
        with self.subTest(row=row, kind=kind.__name__):
            before = self.whole(desk)
            with self.assertRaises(kind):
                desk.say(row)
            with self.assertRaises(TurnError):
                desk.say(row)
            self.assertEqual(self.whole(desk), before)

    def whole(self, desk):
        """All that can be asked of the roads x, y and z; by z none stands."""
        found = []
        for row in ["show x", "show y", "show z", "open x", "open y", "within x y", "within y x"]:
            try:
                found.append(desk.say(row))
            except TurnError as error:
                found.append(type(error))
        return found


class AnswersTest(DeskTest):
    def test_turn(self):
        desk = Desk()
        self.check_ok(desk, *["turn " + turning for turning in TURNINGS])

    def test_start_show_and_end(self):
        desk = desk_with()
        self.check_ok(desk, "start x f(g(a),c)")
        self.check(desk, "show x", "f(g(a),c)")
        self.check(desk, "end x", "f(g(a),c)")
        self.check_ok(desk, "start x b")
        self.check(desk, "show x", "b")
        self.check_ok(desk, "start abcdefgh a")
        self.check(desk, "end abcdefgh", "a")
        self.check(desk, "end x", "b")

    def test_go(self):
        desk = desk_with("start x f(g(a),c)")
        self.check_ok(desk, "go x f(Twice(a),c)")
        self.check(desk, "show x", "f(g(a),c); f(Twice(a),c)")
        self.check(desk, "end x", "f(f(a,a),c)")
        self.check_ok(desk, "go x f(f(Low,a),Grow)", "go x f(f(b,a),g(c))")
        self.check(desk, "show x", "f(g(a),c); f(Twice(a),c); f(f(Low,a),Grow); f(f(b,a),g(c))")
        self.check(desk, "end x", "f(f(b,a),g(c))")

    def test_use(self):
        desk = desk_with("start x f(g(a),c)")
        self.check_ok(desk, "use x 0", "use x 0.1", "use x 1")
        self.check(desk, "show x", "f(g(a),c); f(Twice(a),c); f(f(a,Low),c); f(f(a,b),Grow)")
        self.check_ok(desk, "start x a", "use x top")
        self.check(desk, "show x", "a; Low")
        self.check_ok(desk, "start x " + shown(flat(101)), "use x 10", "use x 99")
        self.check(desk, "end x", "f(" + ",".join("b" if number in (10, 99) else "a" for number in range(100)) + ")")

    def test_behind(self):
        desk = desk_with("start x g(a)", "go x Twice(a)", "go x f(Low,a)", "start y g(a)", "go y g(Low)")
        self.check_ok(desk, "behind z x y")
        self.check(desk, "show z", "g(b); Twice(b); f(b,b)")
        self.check_ok(desk, "behind z y x")
        self.check(desk, "show z", "f(b,a); f(b,Low)")
        self.check_ok(desk, "behind x x y")
        self.check(desk, "show x", "g(b); Twice(b); f(b,b)")
        self.check(desk, "show y", "g(a); g(Low)")

    def test_join(self):
        desk = desk_with("start x g(a)", "go x Twice(a)", "go x f(Low,a)", "start y g(a)", "go y g(Low)")
        self.check_ok(desk, "join z x y")
        self.check(desk, "show z", "g(a); Twice(a); f(Low,a); f(b,Low)")
        self.check_ok(desk, "join z y x")
        self.check(desk, "show z", "g(a); g(Low); Twice(b); f(b,b)")
        self.check_ok(desk, "join y y y")
        self.check(desk, "show y", "g(a); g(Low); g(b)")
        self.check(desk, "show x", "g(a); Twice(a); f(Low,a)")

    def test_open(self):
        desk = desk_with("start x f(g(a),k(c,b))", "start y b")
        self.check(desk, "open x", "0:Twice 0.0:Low 1:Drop 1.0:Grow")
        self.check(desk, "open y", "none")
        self.check_ok(desk, "start x g(a)")
        self.check(desk, "open x", "top:Twice 0:Low")
        self.check_ok(desk, "use x top")
        self.check(desk, "open x", "0:Low 1:Low")
        self.check_ok(desk, "start x " + shown(("f",) + (("b",),) * 110 + (("a",),)))
        self.check(desk, "open x", "110:Low")

    def test_within_and_alike(self):
        desk = desk_with("start x g(a)", "go x Twice(a)", "start y g(a)", "go y Twice(Low)", "start z g(a)", "go z g(Low)")
        self.check_ok(desk, "join w x z")
        for row, answer in (
            ("within x y", "yes"), ("within y x", "no"), ("within x x", "yes"), ("within z x", "no"), ("within y w", "yes"),
            ("alike x y", "no"), ("alike y x", "no"), ("alike w y", "yes"), ("alike y w", "yes"), ("alike x x", "yes"),
        ):
            self.check(desk, row, answer)

    def test_standard(self):
        desk = desk_with("start x g(a)", "start y f(g(a),a)")
        self.check(desk, "standard x", "quiet")
        self.check_ok(desk, "go x g(a)")
        self.check(desk, "standard x", "quiet")
        self.check_ok(desk, "go x g(Low)", "go x Twice(b)")
        self.check(desk, "standard x", "top 0 1")
        self.check_ok(desk, "use y 1", "use y 0.0", "use y 0")
        self.check(desk, "standard y", "0 0.0 0.1 1")
        self.check_ok(desk, "start y a", "use y top")
        self.check(desk, "standard y", "top")

    def test_rest(self):
        desk = desk_with("start x g(k(a,a))", "start y b")
        self.check(desk, "rest x", "rest f(b,b)")
        self.check(desk, "rest y", "rest b")
        self.check_ok(desk, "use x top")
        self.check(desk, "rest x", "rest f(b,b)")
        self.check(desk, "show x", "g(k(a,a)); Twice(k(a,a))")

    def test_rest_is_not_reached_in_twenty_rounds(self):
        desk = Desk()
        self.check_ok(desk, "turn Spin: c > c", "turn Step: s(?0) > t(s(?0))", "turn Low: a > b", "turn Skip: k(?0) > ?0")
        self.check_ok(desk, "start x f(c,a)", "start y s(a)")
        self.check(desk, "rest x", "on f(c,b)")
        self.check(desk, "rest y", "on " + shown(chain(21, ("s", ("b",)), "t")))

    def test_rest_in_just_twenty_rounds_and_in_one_more(self):
        # Walk goes down a tower of p, one step a round, and stops at its foot.
        desk = Desk()
        self.check_ok(desk, "turn Walk: w(p(?0)) > p(w(?0))", "turn Stop: w(a) > b")
        for tower, answer in ((19, "rest "), (20, "on "), (21, "on ")):
            self.check_ok(desk, "start x " + shown(("w", chain(tower + 1, ("a",), "p"))))
            self.assertTrue(desk.say("rest x").startswith(answer), tower)
        self.check_ok(desk, "start x " + shown(("w", chain(20, ("a",), "p"))))
        self.check(desk, "rest x", "rest " + shown(chain(20, ("b",), "p")))
        self.check_ok(desk, "start x " + shown(("w", chain(21, ("a",), "p"))))
        self.check(desk, "rest x", "on " + shown(chain(21, ("w", ("a",)), "p")))


class NoRowTest(DeskTest):
    def setUp(self):
        self.desk = desk_with("start x g(a)", "go x g(Low)", "start y g(a)")

    def test_what_is_no_text(self):
        for thing in (None, 0, 1, True, [], ["end x"], ("end", "x"), {}, b"end x", object(), 1.5, ["end", "x"]):
            self.check_refused(self.desk, NoRow, thing)

    def test_another_word(self):
        for row in (
            "", " ", "x", "End x", "END x", "ends x", "en x", "end\tx", "end\nx", "\nend x", " end x", "  ", "turns A: a > b",
            "begin x a", "joined z x y", "open\u00a0x", "end,x", "help", "book", "new name", "name x",
        ):
            self.check_refused(self.desk, NoRow, row)

    def test_too_few_words(self):
        for row in ("turn", "start", "start x", "go", "go x", "use", "use x"):
            self.check_refused(self.desk, NoRow, row)
        for word in ASKING:
            self.check_refused(self.desk, NoRow, word)
        for word in OF_TWO:
            for row in (word, word + " x"):
                self.check_refused(self.desk, NoRow, row)
        for word in NEW_OF_TWO:
            for row in (word, word + " z", word + " z x"):
                self.check_refused(self.desk, NoRow, row)

    def test_too_many_words(self):
        for word in ASKING:
            for row in (word + " x y", word + " x ", word + "  x", word + " x  "):
                self.check_refused(self.desk, NoRow, row)
        for word in OF_TWO:
            for row in (word + " x y z", word + " x y ", word + " x  y", word + "  x y"):
                self.check_refused(self.desk, NoRow, row)
        for word in NEW_OF_TWO:
            for row in (word + " z x y x", word + " z x y ", word + " z x  y", word + "  z x y"):
                self.check_refused(self.desk, NoRow, row)
        for row in ("use x 0 1", "use x 0 ", "use x  0", "use  x 0", "use x  "):
            self.check_refused(self.desk, NoRow, row)

    def test_ahead_of_all_else(self):
        for row in ("end Q q", "use Q", "use Q ! !", "go Q", "start Q", "behind Q q", "within q q q"):
            self.check_refused(self.desk, NoRow, row)


class NoNameTest(DeskTest):
    def setUp(self):
        self.desk = desk_with("start x g(a)", "go x g(Low)", "start y g(a)")

    def test_names_that_are_no_signs(self):
        for name in ("X", "", "x0", "abcdefghi", "?0", "x\n", "\u00e4", "f(a)", "x.", "Twice"):
            rows = [f"start {name} a", f"start {name} A(", f"go {name} a", f"go {name} (", f"use {name} 0", f"use {name} !"]
            rows += [f"{word} {name}" for word in ASKING]
            for word in OF_TWO:
                rows += [f"{word} {name} y", f"{word} x {name}", f"{word} {name} {name}"]
            for word in NEW_OF_TWO:
                rows += [f"{word} {name} x y", f"{word} z {name} y", f"{word} z x {name}"]
            for row in rows:
                self.check_refused(self.desk, NoName, row)

    def test_names_by_which_no_road_stands(self):
        rows = ["go q a", "go q (", "go q Up", "use q 0", "use q 00"] + [f"{word} q" for word in ASKING]
        for word in OF_TWO:
            rows += [f"{word} q y", f"{word} x q", f"{word} q q"]
        for word in NEW_OF_TWO:
            rows += [f"{word} z q y", f"{word} z x q", f"{word} q q x"]
        for row in rows:
            self.check_refused(self.desk, NoName, row)
            self.check_refused(Desk(), NoName, row)

    def test_a_word_without_signs(self):
        for row in ("end ", "show ", "start  a", "start  ", "go  a", "go  ", "use  0", "use  ", "within  y", "within x ",
                    "behind  x y", "behind z  y", "behind z x ", "join   "):
            self.check_refused(self.desk, NoName, row)

    def test_ahead_of_what_the_stages_refuse(self):
        self.check_ok(self.desk, "start z b")
        self.check_refused(self.desk, NoName, "behind Q x z")
        self.check_refused(self.desk, NoName, "join Q x z")
        self.check_refused(self.desk, Apart, "join q x z")

    def test_names_like_words(self):
        self.check_ok(self.desk, "start top a", "start end b", "start turn a")
        self.check(self.desk, "end end", "b")
        self.check(self.desk, "within top turn", "yes")


class NoTextTest(DeskTest):
    def setUp(self):
        self.desk = desk_with("start x g(a)", "go x g(Low)", "start y g(a)")

    def test_turnings(self):
        for text in ("", " ", "A", "A: z", "A: z > ", "z > y", "a: z > y", " A: z > y", "A: z > y ", "A: Z > y", "A:  z > y"):
            self.check_refused(self.desk, NoText, "turn " + text)
        self.check_refused(self.desk, NoText, "turn A: z > " + shown(flat(401)))

    def test_shapes(self):
        for text in ("", " ", "a ", " a", "a b", "f(a", "f(a, b)", "?0", "f(?0)", "A(", "0", "a\n", "abcdefghi"):
            self.check_refused(self.desk, NoText, "start z " + text)
        self.check_refused(self.desk, NoText, "start z " + shown(flat(401)))
        self.check_refused(self.desk, NoText, "start z " + shown(chain(41)))
        self.check_ok(self.desk, "start z " + shown(flat(400)), "start z " + shown(chain(40)))

    def test_a_way_that_is_not_quiet_is_no_text_of_a_shape(self):
        for text in ("Low", "Twice(a)", "f(a,Low)", "Unknown", "f(Unknown(a))"):
            self.check_refused(self.desk, NoText, "start z " + text)

    def test_ways(self):
        for text in ("", " ", "g(Low", "g(Low) ", " g(Low)", "g(?0)", "g(Low),", "g (Low)", "Low Low"):
            self.check_refused(self.desk, NoText, "go x " + text)
        self.check_refused(self.desk, NoText, "go x " + shown(flat(401)))

    def test_places(self):
        for text in (
            "", ".", "0.", ".0", "0..0", "00", "01", "0.01", "100", "0.100", "-1", "+1", "a", "Top", "TOP", "top.0", "0.top",
            "top.", "()", "(0,)", "0,1", "0\n", "\n0", "0\t", "\u0660", "\u00b2", "1\u0661", "0.a", "?0", "1_0", "0x1", "tops",
        ):
            self.check_refused(self.desk, NoText, "use y " + text)

    def test_places_that_can_be_read(self):
        for text in ("1", "9", "10", "99", "0.0", "0.10.99", "3.0.0.0", ".".join(["0"] * 3000)):
            self.check_refused(self.desk, NoUse, "use y " + text)
        self.check_ok(self.desk, "use y 0", "use y top")


class StagesTest(DeskTest):
    def test_no_turning(self):
        desk = desk_with("start x g(a)", "start y g(a)")
        for text in ("Twice: z > y", "A: ?0 > y", "A: z(?1) > y", "A: z(?0,?0) > y", "A: z > ?0", "A: z > " + shown(flat(13))):
            self.check_refused(desk, NoTurning, "turn " + text)
        self.check_ok(desk, "turn A: z > y", "turn B: q > y")
        self.check_refused(desk, NoTurning, "turn C: p > y")
        self.check_refused(desk, NoTurning, "turn C: a > y")

    def test_clash(self):
        desk = desk_with("start x g(a)", "start y g(a)")
        for text in ("A: a > y", "A: g(b) > y", "A: z(g(?0)) > y", "A: z(z(?0)) > y"):
            self.check_refused(desk, Clash, "turn " + text)
        self.check_refused(desk, NoTurning, "turn Twice: a > y")
        self.check_ok(desk, "turn A: g(?0,?1) > y")

    def test_a_refused_turning_is_not_in_the_book(self):
        desk = desk_with("start x z(a)", "start y a")
        self.check_refused(desk, Clash, "turn A: z(a) > y")
        self.check(desk, "open x", "0:Low")
        self.check_ok(desk, "turn A: z(?0) > y")
        self.check(desk, "open x", "top:A 0:Low")

    def test_a_turning_comes_to_the_roads_that_stand(self):
        desk = Desk()
        self.check_ok(desk, "start x f(a,b)")
        self.check(desk, "open x", "none")
        self.check_ok(desk, "turn Low: a > b")
        self.check(desk, "open x", "0:Low")

    def test_go_no_way(self):
        desk = desk_with("start x g(a)", "start y g(a)")
        for text in ("Unknown", "Twice", "Twice(a,a)", "Low(a)", "g(Unknown)", "g(Low(a))"):
            self.check_refused(desk, NoWay, "go x " + text)

    def test_go_in_its_order(self):
        desk = desk_with("start x " + shown(("d", flat(399))), "start y a")
        great = shown(("Down", flat(399)))
        self.check_refused(desk, NoWay, "go x f(Unknown," + shown(("Down", flat(397))) + ")")
        self.check_refused(desk, TooGreat, "go x " + great)
        self.check_refused(desk, TooGreat, "go y " + great)
        self.check_refused(desk, Apart, "go y " + shown(("Up", flat(399))))
        self.check_refused(desk, Apart, "go y b")
        self.check_refused(desk, Apart, "go x Low")
        self.check_refused(desk, TooGreat, "go x " + shown(("Up", flat(399))))
        self.check_ok(desk, "start x " + shown(("d", flat(398))), "go x " + shown(("Up", flat(398))))

    def test_use_in_its_order(self):
        desk = desk_with("start x " + shown(("d", flat(399))), "start y b")
        self.check_refused(desk, NoUse, "use x 0")
        self.check_refused(desk, NoUse, "use y top")
        self.check_refused(desk, NoUse, "use y 0")
        self.check_refused(desk, TooGreat, "use x top")
        self.check_ok(desk, "start x " + shown(("d", flat(398))), "use x top")

    def test_twenty_ways_and_one_more(self):
        desk = desk_with("start x f(a,c)", "start y a")
        self.check_ok(desk, *["go x f(a,c)"] * 20)
        self.check_refused(desk, TooGreat, "go x f(a,c)")
        self.check_refused(desk, TooGreat, "go x f(Low,c)")
        self.check_refused(desk, TooGreat, "use x 0")
        self.check_refused(desk, NoUse, "use x top")
        self.check_refused(desk, Apart, "go x f(b,c)")
        self.check_refused(desk, NoWay, "go x f(Unknown,c)")
        self.check_ok(desk, "start x a", *["go x a"] * 19)
        self.check_ok(desk, "use x top")
        self.check_refused(desk, TooGreat, "go x b")

    def test_twenty_ways_of_what_is_joined(self):
        desk = desk_with("start x a", "start y a", *["go x a"] * 10, *["go y a"] * 10)
        self.check_ok(desk, "join w x y")
        self.check(desk, "show w", "; ".join(["a"] * 21))
        self.check_ok(desk, "go y a")
        self.check_refused(desk, TooGreat, "join z x y")
        self.check_refused(desk, TooGreat, "join z y x")
        self.check_refused(desk, TooGreat, "join x x y")
        self.check_ok(desk, "behind z y w", "behind w w y")

    def test_apart(self):
        desk = desk_with("start x g(a)", "start y g(b)")
        for row in ("behind z x y", "join z x y", "within x y", "alike x y", "behind x x y", "join y y x"):
            self.check_refused(desk, Apart, row)

    def test_too_great_at_a_corner(self):
        desk = desk_with("start x " + shown(("h", ("g", ("d", flat(197))), ("a",))), "use x 0")
        self.check_ok(desk, "start y " + shown(("h", ("g", ("d", flat(197))), ("a",))), "use y 0.0")
        for row in ("behind z x y", "join z x y", "within x y", "alike x y", "behind x x y", "join y y x"):
            self.check_refused(desk, TooGreat, row)

    def test_apart_ahead_of_too_long(self):
        desk = desk_with("start x a", "start y b", *["go x a"] * 20, *["go y b"] * 20)
        self.check_refused(desk, Apart, "join z x y")

    def test_standard_and_rest_too_great(self):
        desk = desk_with("start x " + shown(flat(62)), "go x " + shown(flat(62, ("Low",))), "start y c")
        self.check_refused(desk, TooGreat, "standard x")
        self.check_refused(desk, TooGreat, "rest y")
        self.check_ok(desk, "start x " + shown(flat(61)), "go x " + shown(flat(61, ("Low",))))
        self.check(desk, "standard x", " ".join(str(number) for number in range(60)))

    def test_two_desks_know_nothing_of_one_another(self):
        one = desk_with("start x g(a)")
        two = Desk()
        self.check_refused(two, NoName, "end x")
        self.check_ok(two, "turn Other: g(?0) > z(?0)", "start x g(a)", "start y b")
        self.check(two, "open x", "top:Other")
        self.check(one, "open x", "top:Twice 0:Low")
        self.check_ok(two, "use x top")
        self.check(one, "show x", "g(a)")
        self.check_refused(one, NoName, "end y")

    def test_asking_changes_nothing(self):
        desk = desk_with("start x g(k(a,c))", "go x g(Drop(a,Grow))", "start y g(k(a,c))", "go y Twice(k(a,c))")
        before = self.whole(desk)
        for _ in range(2):
            for row in ("end x", "show x", "open x", "within x y", "alike x y", "standard x", "standard y"):
                desk.say(row)
            self.assertEqual(self.whole(desk), before)


if __name__ == "__main__":
    unittest.main()
