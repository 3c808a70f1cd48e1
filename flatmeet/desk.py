"""A desk that takes lines of text and answers each with a line."""

from flatmeet.boxes import box
from flatmeet.dropping import apart
from flatmeet.errors import BadCount, BadName, NoLine, NoName, NoRow
from flatmeet.flats import flat_of, parts
from flatmeet.meeting import join, meet, square
from flatmeet.texts import rows_text, sum_text

FIRST_WAYS = 3
COUNTS = ("1", "2", "3", "4", "5")
LETTERS = "abcdefghijklmnopqrstuvwxyz"
FIGURES = "0123456789"
MOST_LETTERS = 12
MOST_FIGURES = 30
# For each first word how many words there are at least and at most.
WORDS = {
    "space": (2, 2),
    "flat": (4, 15),
    "join": (5, 5),
    "meet": (5, 5),
    "square": (4, 4),
    "box": (2, 2),
    "in": (3, 3),
    "apart": (3, 3),
    "same": (3, 3),
}
GIVING = ("flat", "join", "meet", "square")


# Blanks at an end, or two side by side, make an empty word.
def words_of(line):
    words = line.split(" ")
    first = words[0]
    if "" in words or first not in WORDS:
        raise NoLine("no such line")
    if len(words) < WORDS[first][0] or len(words) > WORDS[first][1]:
        raise NoLine("not as many words")
    if first in GIVING and words[2] != "=":
        raise NoLine("no = where it is to stand")
    return words


def made_of(word, signs):
    return all([sign in signs for sign in word])


def check_name(word):
    if not made_of(word, LETTERS) or len(word) > MOST_LETTERS or word == "nothing":
        raise BadName("no name")


def is_number(word):
    if word == "0":
        return True
    figures = word[1:] if word.startswith("-") else word
    return 1 <= len(figures) <= MOST_FIGURES and made_of(figures, FIGURES) and figures[0] != "0"


def row_of(many, word):
    if not word.startswith("(") or not word.endswith(")"):
        raise NoRow("no row")
    numbers = word[1:-1].split(",")
    if len(numbers) != many or not all([is_number(number) for number in numbers]):
        raise NoRow("no row of this space")
    return [int(number) for number in numbers]


class Desk:

    def __init__(self):
        self.many = FIRST_WAYS
        self.flats = {}

    def tell(self, line):
        words = words_of(line)
        first = words[0]
        if first == "space":
            return self.change_space(words[1])
        if first in GIVING:
            return self.give(words)
        if first == "box":
            return "box " + sum_text(box(self.flat_for(words[1])))
        if first == "in":
            return self.tell_parts(words[1], words[2])
        if first == "apart":
            return self.tell_apart(words[1], words[2])
        return self.tell_same(words[1], words[2])

    def flat_for(self, word):
        if word not in self.flats:
            raise NoName("no flat of this name")
        return self.flats[word]

    def change_space(self, word):
        if word not in COUNTS:
            raise BadCount("a space has 1 to 5 ways")
        self.many = int(word)
        self.flats = {}
        return "space " + word

    # The answer is written first: what can't be written is to change nothing either.
    def give(self, words):
        name = words[1]
        check_name(name)
        flat = self.made_flat(words[0], words[3:])
        told = "flat " + name + " = " + rows_text(flat.rows)
        self.flats[name] = flat
        return told

    def made_flat(self, kind, words):
        if kind == "flat":
            return self.written_flat(words)
        if kind == "square":
            return square(self.flat_for(words[0]))
        one = self.flat_for(words[0])
        other = self.flat_for(words[1])
        return join(one, other) if kind == "join" else meet(one, other)

    def written_flat(self, words):
        if words == ["nothing"]:
            return flat_of(self.many, [])
        return flat_of(self.many, [row_of(self.many, word) for word in words])

    def tell_parts(self, name, word):
        row = row_of(self.many, word)
        found = parts(self.flat_for(name), row)
        if found is None:
            return "out"
        return " ".join(["in"] + [str(number) for number in found])

    def tell_apart(self, name, word):
        row = row_of(self.many, word)
        found = apart(self.flat_for(name), row)
        return "apart " + str(found[0]) + " " + str(found[1])

    def tell_same(self, name, other):
        one = self.flat_for(name)
        return "same" if one.rows == self.flat_for(other).rows else "other"
