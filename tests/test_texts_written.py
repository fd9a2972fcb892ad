import unittest

from things import chain, flat
from turnweave.texts import is_sign, is_title, shown, shown_turning

NEITHER = [
    "", " ", "\n", "\t", ".", ",", "?", "?0", "(", ")", "0", "1", "9", "_", "-", "'", "@", "[", "`", "{",
    "a0", "0a", "a1b", "a b", " a", "a ", "a\n", "\na", "a\t", "\ta", "a.", ".a", "a.b", "a_b", "a-b", "f(a)", "a,b",
    "A0", "0A", "Aa0", "Aa b", " Aa", "Aa ", "A\n", "Aa\n", "\nAa", "Aa\t", "Aa.", ".Aa", "Aa.b", "Aa_b",
    "aA", "aBc", "abcdefgH", "AA", "AbC", "ABC", "AbcdefgH", "aaA",
    "\u00e4", "\u00c4", "a\u00e4", "\u00e4a", "A\u00e4", "\u00c4a", "\u00df", "\u00aa", "\u00ba", "\u0430", "\u0410",
    "\u0391", "\u03b1", "\uff41", "\uff21", "a\uff41", "A\uff41", "\u0131", "\u0130", "\u01c5", "\u0660", "\u00b2",
    "a\u0301", "A\u0301", "a\x00", "\x00", "a\x7f", "a\r", "A\r", "a\u2028", "a\u00a0", "\U0001d41a", "\U0001d400",
    "abcdefghi", "Abcdefghi", "aaaaaaaaa", "ABCDEFGHI", "a" * 100, "A" + "a" * 100, "a" * 5000, "        ", "12345678",
]


class SignsAndTitlesTest(unittest.TestCase):
    def test_signs(self):
        for text in ("a", "z", "m", "ab", "zz", "az", "abcdefg", "abcdefgh", "zzzzzzzz", "aaaaaaaa"):
            with self.subTest(text=text):
                self.assertIs(is_sign(text), True)
                self.assertIs(is_title(text), False)

    def test_titles(self):
        for text in ("A", "Z", "M", "Ab", "Zz", "Az", "Za", "Abcdefg", "Abcdefgh", "Zzzzzzzz", "Aaaaaaaa"):
            with self.subTest(text=text):
                self.assertIs(is_title(text), True)
                self.assertIs(is_sign(text), False)

    def test_neither(self):
        for text in NEITHER:
            with self.subTest(text=text):
                self.assertIs(is_sign(text), False)
                self.assertIs(is_title(text), False)

    def test_each_letter_of_the_alphabet(self):
        for small in "abcdefghijklmnopqrstuvwxyz":
            great = small.upper()
            with self.subTest(letter=small):
                self.assertIs(is_sign(small), True)
                self.assertIs(is_sign("q" + small), True)
                self.assertIs(is_title(great), True)
                self.assertIs(is_title("Q" + small), True)
                self.assertIs(is_title("Q" + great), False)
                self.assertIs(is_sign("q" + great), False)

    def test_no_other_sign_is_a_letter(self):
        letters = "abcdefghijklmnopqrstuvwxyz"
        for code in range(0x3000):
            letter = chr(code)
            small = letter in letters
            great = letter in letters.upper()
            answers = [is_sign(letter), is_sign("a" + letter), is_title(letter), is_title("A" + letter)]
            if answers != [small, small, great, small]:
                self.fail(f"the sign of number {code}: {answers}")

    def test_each_length(self):
        for length in range(20):
            with self.subTest(length=length):
                self.assertIs(is_sign("b" * length), 1 <= length <= 8)
                self.assertIs(is_title(("B" + "b" * length)[:length]), 1 <= length <= 8)

    def test_a_strange_letter_at_each_place(self):
        for place in range(8):
            for strange in ("Q", "0", " ", "\n", ".", "\u00e4"):
                with self.subTest(place=place, strange=strange):
                    self.assertIs(is_sign("a" * place + strange + "a" * (7 - place)), False)
                    if place > 0:
                        self.assertIs(is_title("A" + "a" * (place - 1) + strange + "a" * (7 - place)), False)


class ShownTest(unittest.TestCase):
    def test_blanks(self):
        for number in (0, 1, 9, 10, 42, 99, 100, 101, 12345, 10 ** 63, 10 ** 64 - 1, 10 ** 64, 10 ** 64 + 7, 3 ** 500):
            with self.subTest(number=number):
                self.assertEqual(shown(number), "?" + str(number))

    def test_a_blank_of_very_many_figures(self):
        self.assertEqual(shown(10 ** 5000), "?1" + "0" * 5000)
        self.assertEqual(shown(10 ** 5000 - 1), "?" + "9" * 5000)

    def test_without_parts(self):
        for head in ("a", "abcdefgh", "A", "Twice"):
            with self.subTest(head=head):
                self.assertEqual(shown((head,)), head)

    def test_one_part(self):
        self.assertEqual(shown(("f", ("a",))), "f(a)")
        self.assertEqual(shown(("f", 0)), "f(?0)")
        self.assertEqual(shown(("Up", ("Down",))), "Up(Down)")

    def test_several_parts(self):
        self.assertEqual(shown(("f", ("a",), ("b",))), "f(a,b)")
        self.assertEqual(shown(("f", 3, 2, 10)), "f(?3,?2,?10)")
        self.assertEqual(shown(("Up", ("a",), ("Up",), 0, ("a",))), "Up(a,Up,?0,a)")

    def test_nested(self):
        thing = ("f", ("g", ("a",), 3, ("Up", 0, ("b",))), 123, ("Twice", ("h", ("c",)), ("d",)), ("e",))
        self.assertEqual(shown(thing), "f(g(a,?3,Up(?0,b)),?123,Twice(h(c),d),e)")

    def test_the_own_example(self):
        self.assertEqual(shown(("f", ("a",), ("Twice", ("b",)), 0)), "f(a,Twice(b),?0)")

    def test_greatest(self):
        self.assertEqual(shown(chain(40)), "f(" * 39 + "a" + ")" * 39)
        self.assertEqual(shown(flat(400, 99)), "f(" + ",".join(["?99"] * 399) + ")")


class ShownTurningTest(unittest.TestCase):
    def test_the_own_example(self):
        self.assertEqual(shown_turning(("Twice", ("g", 0), ("f", 0, 0))), "Twice: g(?0) > f(?0,?0)")

    def test_without_parts(self):
        self.assertEqual(shown_turning(("A", ("a",), ("b",))), "A: a > b")

    def test_blanks_alone(self):
        self.assertEqual(shown_turning(("Abcdefgh", 3, 100)), "Abcdefgh: ?3 > ?100")

    def test_left_and_right_as_they_stand(self):
        turning = ("Swap", ("f", ("g", 0), 1), ("f", 1, ("h", 0, ("a",))))
        self.assertEqual(shown_turning(turning), "Swap: f(g(?0),?1) > f(?1,h(?0,a))")


if __name__ == "__main__":
    unittest.main()
