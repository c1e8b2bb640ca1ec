"""Tables put below beginnings, put together, and gone down word by word."""

from routeboard.errors import TooMany
from routeboard.matching import lets_by
from routeboard.patterns import MOST_ROWS, has_twice, is_pattern
from routeboard.tables import first


def mounted(ahead, table):
    rows = tuple([(row[0], ahead + row[1]) for row in table])
    if not all([is_pattern(row[1]) for row in rows]):
        raise TooMany("a row would have what is no pattern")
    return rows


def joined(one, other):
    rows = one + other
    if len(rows) > MOST_ROWS:
        raise TooMany("there would be too many rows")
    if has_twice([row[0] for row in rows]):
        raise TooMany("two rows would have one label")
    return rows


def can_begin(pattern, word):
    return len(pattern) > 0 and lets_by(pattern[0], word)


def without_first_word(pattern):
    return pattern if pattern[0][0] == "rest" else pattern[1:]


def below(table, word):
    return tuple([(row[0], without_first_word(row[1])) for row in table if can_begin(row[1], word)])


def label_by_words(table, address):
    for word in address:
        table = below(table, word)
    return first(table, ())
