"""The desk: it keeps a book and roads by names, is told rows, and answers each with a text."""

from turnweave.books import book_of
from turnweave.errors import Apart, NoName, NoRow, NoText, NoWay, TooGreat
from turnweave.rests import rounds
from turnweave.roads import alike, end, road_behind, road_joined, within
from turnweave.standard import standard
from turnweave.texts import is_sign, read_place, read_turning, read_way, shown, shown_place
from turnweave.uses import open_uses, way_of
from turnweave.ways import goal, is_quiet, is_way, source

# Each row's first word, and of what kinds the things behind it are.
ROWS = {
    "turn": ("turning",),
    "start": ("new name", "shape"),
    "go": ("name", "way"),
    "use": ("name", "place"),
    "behind": ("new name", "name", "name"),
    "join": ("new name", "name", "name"),
    "end": ("name",),
    "show": ("name",),
    "open": ("name",),
    "within": ("name", "name"),
    "alike": ("name", "name"),
    "standard": ("name",),
    "rest": ("name",),
}
ROWS_WITH_LONG_END = ("turn", "start", "go")
ROWS_THAT_CHANGE = ("turn", "start", "go", "use", "behind", "join")
MOST_WAYS = 20
MOST_ROUNDS = 20


class Desk:
    def __init__(self):
        self.book = []
        self.roads = {}

    def say(self, row):
        words = words_of(row)
        word = words[0]
        things = [self.thing_of(kind, text) for kind, text in zip(ROWS[word], words[1:])]
        if word in ROWS_THAT_CHANGE:
            self.change(word, things)
            return "ok"
        return self.told(word, [self.roads[name] for name in things])

    def thing_of(self, kind, text):
        if kind == "new name":
            return only_sign(text)
        if kind == "name":
            if text not in self.roads:
                raise NoName("no road stands by this name")
            return text
        if kind == "turning":
            return read_turning(text)
        if kind == "place":
            return read_place(text)
        if kind == "shape":
            return only_quiet(read_way(text))
        return read_way(text)

    def change(self, word, things):
        if word == "turn":
            self.book = book_of(self.book + things)
        elif word == "start":
            self.roads[things[0]] = (things[1], [])
        elif word == "go":
            self.roads[things[0]] = longer(self.book, self.roads[things[0]], things[1])
        elif word == "use":
            road = self.roads[things[0]]
            single = way_of(self.book, end(self.book, road), [things[1]])
            self.roads[things[0]] = longer(self.book, road, single)
        elif word == "behind":
            # It has no more ways than the first road has, so it is never too long.
            self.roads[things[0]] = road_behind(self.book, self.roads[things[1]], self.roads[things[2]])
        else:
            both = road_joined(self.book, self.roads[things[1]], self.roads[things[2]])
            self.roads[things[0]] = only_short(both)

    def told(self, word, roads):
        road = roads[0]
        if word == "end":
            return shown(end(self.book, road))
        if word == "show":
            return "; ".join([shown(road[0])] + [shown(way) for way in road[1]])
        if word == "open":
            return told_uses(open_uses(self.book, end(self.book, road)))
        if word == "within":
            return yes_or_no(within(self.book, road, roads[1]))
        if word == "alike":
            return yes_or_no(alike(self.book, road, roads[1]))
        if word == "standard":
            return told_row(standard(self.book, road))
        return told_rest(self.book, rounds(self.book, end(self.book, road), MOST_ROUNDS))


def words_of(row):
    if not isinstance(row, str):
        raise NoRow("this is no text")
    word = row.partition(" ")[0]
    if word not in ROWS:
        raise NoRow("there is no such row")
    count = len(ROWS[word])
    words = row.split(" ", count) if word in ROWS_WITH_LONG_END else row.split(" ")
    if len(words) != count + 1:
        raise NoRow("the row has too few words, or too many")
    return words


def only_sign(text):
    if not is_sign(text):
        raise NoName("this is no name")
    return text


def only_quiet(way):
    if not is_quiet(way):
        raise NoText("this is no shape's text")
    return way


def longer(book, road, way):
    if not is_way(book, way):
        raise NoWay("this is no way of the book")
    if source(book, way) != end(book, road):
        raise Apart("the way is not from the road's end")
    # The goal is made only to be refused where it isn't small.
    goal(book, way)
    return only_short((road[0], road[1] + [way]))


def only_short(road):
    if len(road[1]) > MOST_WAYS:
        raise TooGreat("the road would have too many ways")
    return road


def yes_or_no(truth):
    return "yes" if truth else "no"


def told_uses(pairs):
    if not pairs:
        return "none"
    return " ".join([shown_place(place) + ":" + title for place, title in pairs])


def told_row(row):
    if not row:
        return "quiet"
    return " ".join([shown_place(place) for place in row])


def told_rest(book, road_and_truth):
    word = "rest" if road_and_truth[1] else "on"
    return word + " " + shown(end(book, road_and_truth[0]))
