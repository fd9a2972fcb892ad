"""The texts of shapes, sides, ways, turnings and places: how they are written, and how they are read."""

from turnweave.errors import NoText
from turnweave.shapes import MOST_DEEP, is_small

MOST_LETTERS = 8
MOST_SIGNS = 4000
TOP = "top"


def is_sign(text):
    return 1 <= len(text) <= MOST_LETTERS and are_small_letters(text)


def is_title(text):
    return 1 <= len(text) <= MOST_LETTERS and "A" <= text[0] <= "Z" and are_small_letters(text[1:])


# Python's islower and isalpha would let letters of other alphabets through.
def are_small_letters(text):
    return all(["a" <= letter <= "z" for letter in text])


def shown(t):
    if isinstance(t, int):
        return "?" + shown_number(t)
    if len(t) == 1:
        return t[0]
    return t[0] + "(" + ",".join([shown(inner) for inner in t[1:]]) + ")"


def shown_turning(turning):
    return turning[0] + ": " + shown(turning[1]) + " > " + shown(turning[2])


# Python's str refuses numbers of some thousand figures, so a long one is written piece by piece.
def shown_number(number):
    text = ""
    rest = number
    while rest >= 10 ** 64:
        text = str(rest % 10 ** 64).zfill(64) + text
        rest = rest // 10 ** 64
    return str(rest) + text


def read_way(text):
    return read_whole(text, False)


def read_side(text):
    return read_whole(text, True)


def read_turning(text):
    check_text(text)
    title_and_sides = text.partition(": ")
    title = title_and_sides[0]
    # Where one of the marks is missing a side is the text without signs, which is refused.
    sides = title_and_sides[2].partition(" > ")
    if not is_title(title):
        raise NoText("a turning's text begins with a title")
    return (title, read_side(sides[0]), read_side(sides[2]))


def check_text(text):
    if not isinstance(text, str):
        raise NoText("this is no text")
    if len(text) > MOST_SIGNS:
        raise NoText("the text is too long")


def read_whole(text, in_side):
    check_text(text)
    reader = Reader(text, in_side)
    thing = reader.read_thing(MOST_DEEP)
    if reader.at != len(text):
        raise NoText("something stands behind the end")
    if not is_small(thing):
        raise NoText("the text tells of a thing that is not small")
    return thing


class Reader:
    def __init__(self, text, in_side):
        self.text = text
        self.in_side = in_side
        self.at = 0

    def here(self):
        return self.text[self.at:self.at + 1]

    def read_word(self):
        start = self.at
        while self.here() not in ("", "(", ",", ")"):
            self.at += 1
        return self.text[start:self.at]

    # room bounds the recursion: a long text may be nested far deeper than what is small.
    def read_thing(self, room):
        if room == 0:
            raise NoText("the text is nested too deep")
        word = self.read_word()
        if self.in_side and is_blank_text(word):
            return int(word[1:])
        if not is_sign(word) and (self.in_side or not is_title(word)):
            raise NoText("a word of the text is none that may stand there")
        return (word,) + self.read_parts(room - 1)

    def read_parts(self, room):
        if self.here() != "(":
            return ()
        found = []
        while not found or self.here() == ",":
            self.at += 1
            found.append(self.read_thing(room))
        if self.here() != ")":
            raise NoText("a bracket is not closed")
        self.at += 1
        return tuple(found)


def is_blank_text(word):
    return word[:1] == "?" and is_short_number(word[1:])


# Python's isdigit would let figures of other alphabets through.
def is_short_number(figures):
    if not all(["0" <= figure <= "9" for figure in figures]):
        return False
    return len(figures) == 1 or (len(figures) == 2 and figures[0] != "0")


def shown_place(place):
    if place == ():
        return TOP
    return ".".join([shown_number(number) for number in place])


def read_place(text):
    if text == TOP:
        return ()
    words = text.split(".")
    if not all([is_short_number(word) for word in words]):
        raise NoText("this is no place's text")
    return tuple([int(word) for word in words])
