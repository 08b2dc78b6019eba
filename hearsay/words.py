"""Words of rows: the numbers, names, lists of houses and sentences in them."""

from hearsay.errors import HearError
from hearsay.nets import is_house
from hearsay.sentences import Both, Came, Either, Knows, Shared

MOST_FIGURES = 60
MOST_LETTERS = 12
FIGURES = "0123456789"
LETTERS = "abcdefghijklmnopqrstuvwxyz"


class NoRow(HearError):
    pass


class Reader:
    def __init__(self, row):
        self.words = row.split(" ")
        self.place = 0

    def look(self):
        """The next word, the empty text behind the last one."""
        return self.words[self.place] if self.place < len(self.words) else ""

    def take(self):
        word = self.look()
        if word == "":
            raise NoRow("a blank too many, or a word too few")
        self.place += 1
        return word

    def expect(self, word):
        if self.take() != word:
            raise NoRow(f"not there: {word}")

    def finish(self):
        if self.place < len(self.words):
            raise NoRow("words too many")


def is_number(word):
    if not 1 <= len(word) <= MOST_FIGURES or not all([figure in FIGURES for figure in word]):
        return False
    return word == "0" or word[0] != "0"


def is_name(word):
    return 1 <= len(word) <= MOST_LETTERS and all([letter in LETTERS for letter in word])


def read_number(reader):
    word = reader.take()
    if not is_number(word):
        raise NoRow(f"no number: {word}")
    return int(word)


def read_number_or_none(reader):
    if reader.look() == "-":
        reader.expect("-")
        return None
    return read_number(reader)


def read_name(reader):
    word = reader.take()
    if not is_name(word):
        raise NoRow(f"no name: {word}")
    return word


def read_house(net, reader):
    house = read_number(reader)
    if not is_house(net[0], house):
        raise NoRow(f"no house: {house}")
    return house


def read_houses(net, reader):
    """All numbers that come next: some unlike houses."""
    houses = []
    while is_number(reader.look()):
        houses.append(read_house(net, reader))
    if not houses or len(set(houses)) < len(houses):
        raise NoRow("no houses, or one of them twice")
    return houses


def read_turn(tale, reader):
    reader.expect("at")
    turn = read_number(reader)
    if turn > tale[0]:
        raise NoRow(f"behind the last turn: {turn}")
    return turn


def read_sentence(net, tale, reader):
    # A row may open many more parts than it closes: they are kept in a list here, so that none is too deep.
    parts = []
    sentence = None
    while sentence is None:
        if reader.look() == "came":
            sentence = close_parts(reader, parts, read_came(reader))
        else:
            parts.append(read_opening(net, tale, reader))
    return sentence


def read_came(reader):
    reader.expect("came")
    name = read_name(reader)
    if reader.look() != "by":
        return Came(name)
    reader.expect("by")
    return Came(name, read_number(reader))


def read_opening(net, tale, reader):
    """What stands ahead of a sentence within another one, as a tuple."""
    word = reader.look()
    if word == "(":
        reader.expect("(")
        return ("(",)
    if word == "all":
        reader.expect("all")
        part = ("share", read_houses(net, reader), read_turn(tale, reader))
    else:
        part = ("knows", read_house(net, reader), read_turn(tale, reader))
    reader.expect(part[0])
    return part


def close_parts(reader, parts, sentence):
    """Puts round a sentence the parts that end with it; None where one of them has another sentence to come."""
    while parts:
        part = parts.pop()
        if part[0] == "(":
            parts.append((read_joint(reader), sentence))
            return None
        sentence = close_part(reader, part, sentence)
    return sentence


def read_joint(reader):
    word = reader.take()
    if word not in ("and", "or"):
        raise NoRow(f"neither and nor or: {word}")
    return word


def close_part(reader, part, sentence):
    if part[0] == "knows":
        return Knows(part[1], part[2], sentence)
    if part[0] == "share":
        return Shared(part[1], part[2], sentence)
    reader.expect(")")
    return Both(part[1], sentence) if part[0] == "and" else Either(part[1], sentence)
