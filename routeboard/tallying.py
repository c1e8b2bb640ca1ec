"""How many addresses of some words are matched, first led to each row, and matched by two rows."""

from routeboard.matching import has_fitting_length, lets_by
from routeboard.mounting import below
from routeboard.searching import part_at
from routeboard.tables import first


def tally_of_all(patterns, words, many):
    """How many addresses all of the patterns match."""
    if not all([has_fitting_length(pattern, many) for pattern in patterns]):
        return 0
    count = 1
    for at in range(many):
        parts = [part_at(pattern, at) for pattern in patterns]
        count *= len([word for word in words if all([lets_by(part, word) for part in parts])])
    return count


def tally(pattern, words, many):
    return tally_of_all([pattern], words, many)


def tallies_below(table, words, many):
    """A dict of the tables to which the addresses come, gone below word by word, and how many come to each."""
    # There is one address without words, but none of less than no words.
    counts = {table: 1} if many >= 0 else {}
    for turn in range(many):
        further = {}
        for rows, count in counts.items():
            for word in words:
                left = below(rows, word)
                further[left] = further.get(left, 0) + count
        counts = further
    return counts


def tallies(table, words, many):
    counts = {}
    for rows, count in tallies_below(table, words, many).items():
        label = first(rows, ())
        counts[label] = counts.get(label, 0) + count
    return [(label, counts.get(label, 0)) for label in [row[0] for row in table] + [None]]


def crossings(table, words, many):
    found = []
    for at, row in enumerate(table):
        for other in table[at + 1:]:
            count = tally_of_all([row[1], other[1]], words, many)
            if count > 0:
                found.append((row[0], other[0], count))
    return found
