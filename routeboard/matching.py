"""Which addresses a pattern matches, with which values, and addresses built of values."""

from routeboard.errors import BadValues
from routeboard.patterns import FIGURES, MOST_WORDS, are_words, hole_names, is_hole, is_word

GREATEST_NUMBER = 99999999


def has_rest(pattern):
    return len(pattern) > 0 and pattern[-1][0] == "rest"


def writes_number(word):
    if word == "" or not all([sign in FIGURES for sign in word]):
        return False
    return word == "0" or not word.startswith("0")


def lets_by(part, word):
    if part[0] == "word":
        return word == part[1]
    if part[0] == "one":
        return word in part[2]
    if part[0] == "number":
        return writes_number(word)
    return True


def has_fitting_length(pattern, many):
    if has_rest(pattern):
        return many >= len(pattern) - 1
    return many == len(pattern)


def does_match(pattern, address):
    if not has_fitting_length(pattern, len(address)):
        return False
    # A rest lets all words by, so it does no harm that it meets the first of its words here, or none.
    return all([lets_by(part, word) for part, word in zip(pattern, address)])


def value_at(part, address, at):
    if part[0] == "rest":
        return address[at:]
    if part[0] == "number":
        return int(address[at])
    return address[at]


def matched(pattern, address):
    if not does_match(pattern, address):
        return None
    return [(part[1], value_at(part, address, at)) for at, part in enumerate(pattern) if is_hole(part)]


def is_number_value(value):
    # Compared, not written: Python refuses to write numbers of very many figures.
    return isinstance(value, int) and not isinstance(value, bool) and 0 <= value <= GREATEST_NUMBER


def can_hold(hole, value):
    if hole[0] == "number":
        return is_number_value(value)
    if hole[0] == "rest":
        return isinstance(value, tuple) and are_words(value)
    if hole[0] == "one":
        return value in hole[2]
    return is_word(value)


def values_by_name(pattern, some):
    names = hole_names(pattern)
    values = {}
    for name, value in some:
        if name not in names:
            raise BadValues(f"no hole has the name {name!r}")
        if name in values:
            raise BadValues(f"the hole {name!r} has two values")
        values[name] = value
    if len(values) < len(names):
        raise BadValues("a hole has no value")
    return values


def check_values(pattern, values):
    for part in pattern:
        if is_hole(part) and not can_hold(part, values[part[1]]):
            name = part[1]
            raise BadValues(f"the hole {name!r} can't have this value")


def words_with(pattern, values):
    """The words of the pattern, with the values that a dict has by the names of the holes in their stead."""
    words = []
    for part in pattern:
        if not is_hole(part):
            words.append(part[1])
        elif part[0] == "rest":
            words.extend(values[part[1]])
        else:
            words.append(str(values[part[1]]))
    return words


def built(pattern, some):
    values = values_by_name(pattern, some)
    check_values(pattern, values)
    words = words_with(pattern, values)
    if len(words) > MOST_WORDS:
        raise BadValues("the address would have too many words")
    return tuple(words)
