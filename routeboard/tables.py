"""Which rows of a table match an address, the first and the most special of them, and the rows by ranks."""

from routeboard.errors import NoRow
from routeboard.matching import does_match, matched

# From the most special on.
RANKED_KINDS = ("word", "one", "number", "any", "rest")


def number_of(table, label):
    for at, row in enumerate(table):
        if row[0] == label:
            return at
    raise NoRow(f"no row has the label {label!r}")


def pattern_of(table, label):
    return table[number_of(table, label)][1]


def all_rows(table, address):
    return [row[0] for row in table if does_match(row[1], address)]


def first(table, address):
    labels = all_rows(table, address)
    return labels[0] if len(labels) > 0 else None


def led(table, address):
    label = first(table, address)
    if label is None:
        return None
    return (label, matched(pattern_of(table, label), address))


def rank(row):
    # Of two tuples of which one begins with the other Python puts the shorter ahead: so an end comes ahead of parts.
    return tuple([RANKED_KINDS.index(part[0]) for part in row[1]])


def by_ranks(table):
    # sorted leaves rows of one rank in their order.
    return tuple(sorted(table, key=rank))


def best(table, address):
    return first(by_ranks(table), address)
