"""A table kept while its rows come and go, which looks at its patterns only for addresses that are new to it."""

from routeboard.errors import Taken, TooMany
from routeboard.matching import matched
from routeboard.patterns import MOST_ROWS
from routeboard.tables import number_of


class Board:
    def __init__(self):
        self.rows = ()
        # What was told of each address since the rows were last changed.
        self.told = {}
        self.looks = 0

    def set_rows(self, rows):
        self.rows = rows
        self.told = {}

    def add(self, label, pattern, at):
        if label in [row[0] for row in self.rows]:
            raise Taken(f"a row has the label {label!r}")
        if len(self.rows) >= MOST_ROWS:
            raise TooMany("there are as many rows as there can be")
        self.set_rows(with_row(self.rows, (label, pattern), at))

    def drop(self, label):
        self.set_rows(without_row(self.rows, number_of(self.rows, label)))

    def move(self, label, at):
        number = number_of(self.rows, label)
        self.set_rows(with_row(without_row(self.rows, number), self.rows[number], at))

    def table(self):
        return self.rows

    def look(self, address):
        for label, pattern in self.rows:
            self.looks += 1
            values = matched(pattern, address)
            if values is not None:
                return (label, values)
        return None

    def ask(self, address):
        if address not in self.told:
            self.told[address] = self.look(address)
        return self.told[address]

    def find(self, address):
        told = self.ask(address)
        return None if told is None else told[0]

    def holes(self, address):
        told = self.ask(address)
        # A new list, since whoever gets it may change it.
        return None if told is None else (told[0], list(told[1]))

    def looked(self):
        return self.looks


def with_row(rows, row, at):
    # A number that no row has, also one below 0, means behind all.
    place = at if 0 <= at < len(rows) else len(rows)
    return rows[:place] + (row,) + rows[place:]


def without_row(rows, number):
    return rows[:number] + rows[number + 1:]
