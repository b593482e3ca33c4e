"""The desk: it is given lines one by one and answers each with lines."""

from findhall.errors import BadKey, BadText, NoAsk, NoText, Twice
from findhall.fractions import shown_fraction
from findhall.house import House
from findhall.keeping import flat, meant
from findhall.reading import read_ask

ROWS_AT_ONCE = 10


def or_nothing(lines):
    return lines if len(lines) > 0 else ["nothing"]


class Desk:
    def __init__(self, house=None):
        self.house = House() if house is None else house
        self.asked = None
        # How many rows of the last question were told.
        self.place = 0

    def answer(self, line):
        if not isinstance(line, str):
            return ["no such line"]
        parts = line.partition(" ")
        if parts[1] == "":
            return self.answer_word(parts[0])
        return self.answer_rest(parts[0], parts[2])

    def answer_word(self, word):
        if word == "keys":
            return or_nothing(self.house.all_keys())
        if word == "books":
            return [" ".join(or_nothing([str(many) for many in self.house.books()]))]
        if word == "pour":
            self.house.pour()
            return ["done"]
        if word == "more":
            return self.answer_more()
        return ["no such line"]

    def answer_rest(self, word, rest):
        if word == "put":
            return self.answer_put(rest)
        if word == "ask":
            return self.answer_ask(rest)
        try:
            if word == "take":
                self.house.take(rest)
                return ["done"]
            if word == "show":
                return [flat(self.house.text(rest))]
        except NoText:
            return ["no text"]
        return ["no such line"]

    def answer_put(self, rest):
        parts = rest.partition(" ")
        if parts[1] == "":
            return ["no such line"]
        try:
            # Where nothing is flat so, None is no text either, and the key is looked at ahead of it.
            self.house.put(parts[0], meant(parts[2]))
        except BadKey:
            return ["bad key"]
        except BadText:
            return ["bad text"]
        except Twice:
            return ["twice"]
        return ["done"]

    def answer_ask(self, rest):
        try:
            ask = read_ask(rest)
        except BadText:
            return ["bad text"]
        except NoAsk as refusal:
            return ["no ask " + str(refusal.at)]
        self.asked = ask
        self.place = 0
        many = len(self.house.found(ask))
        return [str(many) + " found"] + self.next_rows()

    def answer_more(self):
        if self.asked is None:
            return ["no question"]
        lines = self.next_rows()
        return lines if len(lines) > 0 else ["no more"]

    def next_rows(self):
        rows = self.house.ranked(self.asked, self.place, ROWS_AT_ONCE)
        self.place += len(rows)
        lines = []
        for key, worth in rows:
            lines.append(key + " " + shown_fraction(worth))
            lines.extend(["> " + piece for piece in self.house.pieces(key, self.asked)])
        return lines
