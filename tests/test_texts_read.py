import itertools
import unittest

from oracle import is_written_side, is_written_turning, is_written_way
from things import all_things, chain, chain_and_flat, flat
from turnweave.errors import NoText, TurnError
from turnweave.texts import read_side, read_turning, read_way, shown, shown_turning

STRANGE_SIGNS = [
    " ", "\n", "\t", "\r", "\x00", "\x0b", "\x1c", "\x85", "\u00a0", "\u2028", "\u3000", "\ufeff",
    "(", ")", ",", ";", ":", ">", ".", "?", "!", "[", "]", "{", "}", "<", "\"", "'", "_", "-", "+", "#",
    "a", "q", "A", "Q", "0", "1", "9", "\u00e4", "\u0430", "\u0660", "\u00b2", "\uff11", "\uff08", "\uff0c",
]
NO_TEXTS = [
    0, 1, -1, 7, 400, True, False, None, 1.5, [], ["a"], (), ("a",), ("f", ("a",)), ("Twice", ("a",), ("b",)),
    {}, {"a": "b"}, b"a", b"", b"Twice: a > b", object(), str, ["Twice: a > b"], {"a"},
]


class ReadingTest(unittest.TestCase):
    def check_read(self, read, show, text, thing):
        found = read(text)
        self.assertEqual(found, thing)
        self.assertEqual(repr(found), repr(thing))
        self.assertEqual(show(found), text)

    def check_way(self, text, thing):
        with self.subTest(text=text):
            self.check_read(read_way, shown, text, thing)

    def check_side(self, text, thing):
        with self.subTest(text=text):
            self.check_read(read_side, shown, text, thing)

    def check_turning(self, text, thing):
        with self.subTest(text=text):
            self.check_read(read_turning, shown_turning, text, thing)

    def check_refused(self, read, text):
        with self.subTest(read=read.__name__, text=text), self.assertRaises(NoText):
            read(text)

    # Agrees with the oracle, and what is read is shown as the text that was read.
    def check_as_told(self, read, show, is_written, text):
        try:
            found = read(text)
        except NoText:
            self.assertFalse(is_written(text), f"refused: {text!r}")
        else:
            self.assertTrue(is_written(text), f"read: {text!r}")
            self.assertEqual(show(found), text)


def spoiled(text):
    """The text with each strange sign put in at each place or for each sign, and with each sign missing or doubled."""
    for at in range(len(text) + 1):
        yield text[:at] + text[at + 1:]
        yield text[:at] + text[at:at + 1] * 2 + text[at + 1:]
        for sign in STRANGE_SIGNS:
            yield text[:at] + sign + text[at:]
            yield text[:at] + sign + text[at + 1:]


class WaysTest(ReadingTest):
    def test_ordinary(self):
        self.check_way("a", ("a",))
        self.check_way("abcdefgh", ("abcdefgh",))
        self.check_way("A", ("A",))
        self.check_way("Twice", ("Twice",))
        self.check_way("Abcdefgh", ("Abcdefgh",))
        self.check_way("f(a)", ("f", ("a",)))
        self.check_way("f(a,b,c)", ("f", ("a",), ("b",), ("c",)))
        self.check_way("Up(Up,a,Up(a))", ("Up", ("Up",), ("a",), ("Up", ("a",))))
        self.check_way("f(g(h(a),b),Twice(c),d)", ("f", ("g", ("h", ("a",)), ("b",)), ("Twice", ("c",)), ("d",)))

    def test_any_count_of_parts(self):
        for head in ("f", "Up"):
            for count in range(1, 30):
                text = head + "(" + ",".join(["a"] * count) + ")"
                self.check_way(text, (head,) + (("a",),) * count)
        self.check_way("f(f,f(a),f(a,a))", ("f", ("f",), ("f", ("a",)), ("f", ("a",), ("a",))))

    def test_no_blanks(self):
        for text in ("?0", "?9", "?10", "f(?0)", "f(a,?1)", "Up(?0)", "f(a,Twice(b),?0)", "?", "?00"):
            self.check_refused(read_way, text)


class SidesTest(ReadingTest):
    def test_ordinary(self):
        self.check_side("a", ("a",))
        self.check_side("abcdefgh", ("abcdefgh",))
        self.check_side("f(a,?0)", ("f", ("a",), 0))
        self.check_side("f(g(?2,?0),?1,?0,h(a))", ("f", ("g", 2, 0), 1, 0, ("h", ("a",))))

    def test_each_blank_from_0_to_99(self):
        for number in range(100):
            self.check_side("?" + str(number), number)
            self.check_side("f(?" + str(number) + ",a)", ("f", number, ("a",)))
            self.assertIs(type(read_side("?" + str(number))), int)

    def test_blanks_written_otherwise(self):
        for blank in (
            "?", "??", "??0", "?0?", "?00", "?01", "?09", "?000", "?001", "?010", "?100", "?101", "?999", "?1000",
            "?-1", "?+1", "?-0", "? 1", "?1 ", "?1_0", "?1.0", "?a", "?1a", "?a1", "?A", "0", "1", "10", "a?0", "0?",
            "?\u0660", "?\u00b2", "?1\u0660", "?\uff11", "?0x", "?1\n", "?\n1", "?0(a)", "?0()", "?0,", "?(0)",
            "?" + "1" * 3000, "?" + "0" * 3000,
        ):
            self.check_refused(read_side, blank)
            self.check_refused(read_side, "f(" + blank + ")")
            self.check_refused(read_side, "f(a," + blank + ",?1)")

    def test_no_titles(self):
        for text in ("A", "Twice", "Twice(a)", "f(A)", "f(Twice(?0))", "f(a,Twice(b),?0)", "f(?0,g(Up))"):
            self.check_refused(read_side, text)


class BothTest(ReadingTest):
    def check_both_refused(self, text):
        self.check_refused(read_way, text)
        self.check_refused(read_side, text)

    def test_written_wrongly(self):
        for word in (
            "abcdefghi", "Abcdefghi", "aB", "AB", "aaA", "AaA", "a0", "0a", "A0", "a_b", "a.b", "a-b", "\u00e4",
            "a\u00e4", "A\u00e4", "\u00c4a", "\u0430", "\uff41", "a b", "A b", "a?0", "ABCDEFGH", "a\u0301",
        ):
            for text in (word, word + "(a)", "f(" + word + ")", "f(a," + word + ",b)", "f(g(" + word + "(a)))"):
                self.check_both_refused(text)

    def test_commas_and_brackets(self):
        for text in (
            "f(", "f)", "f()", "(", ")", "()", "(a)", "((a))", ",", ",a", "a,", "a,b", "f(a", "f(a,", "f(a,)", "f(,a)",
            "f(,)", "f(a,,b)", "f(a,b,)", "f(a))", "f((a)", "f((a))", "f(a)(b)", "f(a)b", "f(a)g(b)", "f(a),", "f(a),g",
            "f(a)()", "f(g()", "f(g())", "f(g(),a)", "f(g(a)", "f(g(a)))", "f(g(a)h)", "f(a b)", "f(a;b)", "f(a.b)",
            "f[a]", "f{a}", "f<a>", "f(a]", "f[a)", "f a", "f:a", ")a(", "a)(b", "f(a),g(b)", "f(a)a", "f(g(a)b,c)",
            "f(a,b", "f,a)", "f(a,(b))", "f(a,(b,c))", "\uff46(a)", "f\uff08a\uff09", "f(a\uff0cb)",
        ):
            self.check_both_refused(text)

    def test_blanks_and_line_ends(self):
        for base in ("a", "f(a)", "f(a,b)", "f(g(a),b)"):
            for white in (" ", "\n", "\t", "\r", "\r\n", "  ", "\u00a0", "\u2028", "\x00"):
                for at in range(len(base) + 1):
                    self.check_both_refused(base[:at] + white + base[at:])

    def test_behind_the_end(self):
        for base in ("a", "f(a)", "abcdefgh"):
            for behind in (" ", "\n", ",", ")", "(", "(a", "()", ";", ".", "?0", "0", ",a", " a", " > a", "\x00", "A"):
                self.check_both_refused(base + behind)

    def test_without_signs(self):
        self.check_both_refused("")

    def test_no_text(self):
        for thing in NO_TEXTS:
            self.check_both_refused(thing)
            self.check_refused(read_turning, thing)

    def test_is_a_turn_error(self):
        for read in (read_way, read_side, read_turning):
            with self.assertRaises(TurnError):
                read("")

    def test_each_short_text(self):
        for length in range(6):
            for signs in itertools.product("aA?01(), ", repeat=length):
                text = "".join(signs)
                self.check_as_told(read_way, shown, is_written_way, text)
                self.check_as_told(read_side, shown, is_written_side, text)

    def test_spoiled_texts(self):
        for base in ("f(a,Twice(b),c)", "Up(f(Up(a),bc),D)", "f(a,g(?0),?12)", "g(?0)", "abcdefgh(a)", "Abcdefgh"):
            for text in spoiled(base):
                self.check_as_told(read_way, shown, is_written_way, text)
                self.check_as_told(read_side, shown, is_written_side, text)

    def test_each_thing_of_a_short_text(self):
        for length in range(1, 10):
            for way in all_things(length, {"a": ("a",), "bc": ("bc",), "A": ("A",), "Bc": ("Bc",)}, ["f", "G"]):
                self.assertEqual(read_way(shown(way)), way)
            for side in all_things(length, {"a": ("a",), "?0": 0, "?7": 7, "?10": 10}, ["f", "gh"]):
                self.assertEqual(read_side(shown(side)), side)


class GreatnessTest(ReadingTest):
    def test_deep(self):
        for leaf in (("a",), ("Up",)):
            for head in ("f", "Up"):
                self.check_way(shown(chain(40, leaf, head)), chain(40, leaf, head))
                self.check_refused(read_way, shown(chain(41, leaf, head)))
                self.check_refused(read_way, shown(("f", ("a",), chain(40, leaf, head), ("b",))))
        for leaf in (("a",), 0, 99):
            self.check_side(shown(chain(40, leaf)), chain(40, leaf))
            self.check_refused(read_side, shown(chain(41, leaf)))
            self.check_refused(read_side, shown(("f", 0, chain(40, leaf))))

    def test_heavy(self):
        for leaf in (("a",), ("Up",)):
            for head in ("f", "Up"):
                for deep in (2, 40):
                    self.check_way(shown(chain_and_flat(deep, 400, leaf, head)), chain_and_flat(deep, 400, leaf, head))
                    self.check_refused(read_way, shown(chain_and_flat(deep, 401, leaf, head)))
        for leaf in (("a",), 0, 99):
            self.check_side(shown(chain_and_flat(40, 400, leaf)), chain_and_flat(40, 400, leaf))
            self.check_refused(read_side, shown(chain_and_flat(40, 401, leaf)))
            self.check_side(shown(flat(400, leaf)), flat(400, leaf))
            self.check_refused(read_side, shown(flat(401, leaf)))

    def test_the_longest_words(self):
        thing = ("abcdefgh",) + (chain(39, ("abcdefgh",), "abcdefgh"),) * 10 + (("abcdefgh",),) * 9
        self.assertGreater(len(shown(thing)), 3900)
        self.check_way(shown(thing), thing)
        self.check_side(shown(thing), thing)

    def test_nested_far_too_deep(self):
        for text in ("f(" * 1999 + "a", "f(" * 1333 + "a" + ")" * 1333, "(" * 4000, "f(" * 2000, ")" * 4000):
            self.assertLessEqual(len(text), 4000)
            for read in (read_way, read_side):
                self.check_refused(read, text)
            self.check_refused(read_turning, ("Up: " + text)[:3990] + " > a")
            self.check_refused(read_turning, "Up: a > " + text[:3990])

    def test_far_too_long(self):
        for text in ("a" * 4000, "a" * 4001, "a" * 100000, "f(" * 100000, "f(" + "a," * 100000 + "a)", " " * 4001):
            for read in (read_way, read_side, read_turning):
                self.check_refused(read, text)


class TurningsTest(ReadingTest):
    def test_ordinary(self):
        self.check_turning("Twice: g(?0) > f(?0,?0)", ("Twice", ("g", 0), ("f", 0, 0)))
        self.check_turning("A: a > b", ("A", ("a",), ("b",)))
        self.check_turning("Abcdefgh: f(?0,?1) > ?1", ("Abcdefgh", ("f", 0, 1), 1))

    def test_nothing_but_a_title_and_two_sides_is_looked_at(self):
        self.check_turning("A: ?0 > ?0", ("A", 0, 0))
        self.check_turning("A: ?7 > a", ("A", 7, ("a",)))
        self.check_turning("A: f(?1,?0) > a", ("A", ("f", 1, 0), ("a",)))
        self.check_turning("A: f(?0,?0) > ?99", ("A", ("f", 0, 0), 99))
        self.check_turning("A: a > f(?0)", ("A", ("a",), ("f", 0)))
        self.check_turning("A: a > a", ("A", ("a",), ("a",)))
        self.check_turning(shown_turning(("A", flat(13), flat(200, 5))), ("A", flat(13), flat(200, 5)))

    def test_titles(self):
        for title in ("", "a", "twice", "Abcdefghi", "AB", "A0", "A b", " A", "A ", "\nA", "A\n", "\u00c4", "?0", "A(a)", "A,"):
            self.check_refused(read_turning, title + ": a > b")

    def test_sides(self):
        for side in (
            "", " ", "A", "Twice(a)", "f(A)", "f(", "f()", "f(a", "f(a))", "f(a,)", "a b", " a", "a ", "a\n", "\na",
            "?", "?00", "?01", "?100", "abcdefghi", "aB", "a,b", "0", "f(a, b)", "a:", "a>", "> a",
        ):
            self.check_refused(read_turning, "Up: " + side + " > a")
            self.check_refused(read_turning, "Up: a > " + side)

    def test_marks(self):
        for text in (
            "Up:a > b", "Up :a > b", "Up : a > b", "Up:  a > b", "Up:\ta > b", "Up:\na > b", "Up a > b", "Upa > b",
            "Up; a > b", "Up. a > b", "Up:: a > b", "Up: : a > b", "Up: Up: a > b", "Up: a: b > c", "Up: a > b: c",
            "Up: a > b: ", ": Up: a > b", "Up\u00a0: a > b", "Up:\u00a0a > b", "Up\uff1a a > b",
            "Up: a>b", "Up: a >b", "Up: a> b", "Up: a  > b", "Up: a >  b", "Up: a\t>\tb", "Up: a\n>\nb", "Up: a b",
            "Up: ab", "Up: a < b", "Up: a = b", "Up: a -> b", "Up: a >> b", "Up: a > > b", "Up: a > b > c",
            "Up: a > b > ", "Up:  > a > b", "Up > a: b", "Up > a > b", "Up: a: b", "a > b", "Up: a", "Up: ", "Up:",
            "Up", " > ", ": ", ":  > ", "Up:  > ", "Up: a > ", "Up: a >", "Up:  > b", "Up: > b", " Up: a > b",
            "Up: a > b ", "Up: a > b\n", "\nUp: a > b", "Up: a > b,", "Up: a > b)", "(Up: a > b)", "Up: (a > b)",
            "", "up: a > b", "Up: a > b; Up: a > b", "Up: a > bUp: a > b", "Up: a > b\nUp: a > b",
        ):
            self.check_refused(read_turning, text)

    def test_spoiled_texts(self):
        for base in ("Twice: g(?0) > f(?0,?0)", "A: a > ?1", "Abcdefgh: f(a,?10) > h"):
            for text in spoiled(base):
                self.check_as_told(read_turning, shown_turning, is_written_turning, text)

    def test_each_side_is_small_by_itself(self):
        deep = chain(40)
        heavy = chain_and_flat(40, 400, 1)
        for one in (("a",), deep, heavy):
            for other in (("a",), deep, heavy):
                self.check_turning(shown_turning(("Up", one, other)), ("Up", one, other))
        for one in (("a",), heavy):
            for great in (chain(41), chain(41, 0), flat(401), chain_and_flat(40, 401, 1)):
                self.check_refused(read_turning, shown_turning(("Up", one, great)))
                self.check_refused(read_turning, shown_turning(("Up", great, one)))

    def test_4000_and_4001_signs(self):
        left = flat(220, ("abcdefgh",))
        right = flat(224, ("abcdefgh",))
        for letters in range(5, 9):
            title = "Abcdefgh"[:letters]
            fitting = (title, left, right + (("b" * (12 - letters),),))
            too_long = (title, left, right + (("b" * (13 - letters),),))
            self.assertEqual(len(shown_turning(fitting)), 4000)
            self.assertEqual(len(shown_turning(too_long)), 4001)
            self.check_turning(shown_turning(fitting), fitting)
            self.check_refused(read_turning, shown_turning(too_long))


if __name__ == "__main__":
    unittest.main()
