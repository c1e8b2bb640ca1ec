"""What words, addresses, names, patterns and tables are."""

# Written out, since Python's own tests for letters and figures know more signs than these.
LETTERS = "abcdefghijklmnopqrstuvwxyz"
FIGURES = "0123456789"
WORD_SIGNS = "abcdefghijklmnopqrstuvwxyz0123456789-"

MOST_SIGNS = 8
MOST_LETTERS = 4
MOST_WORDS = 8
MOST_CHOICES = 4
MOST_PARTS = 6
MOST_ROWS = 8

NAME_ONLY_HOLES = ("any", "number", "rest")


def is_text_of(thing, signs, most):
    if not isinstance(thing, str):
        return False
    return 1 <= len(thing) <= most and all([sign in signs for sign in thing])


def is_word(thing):
    return is_text_of(thing, WORD_SIGNS, MOST_SIGNS)


def is_name(thing):
    return is_text_of(thing, LETTERS, MOST_LETTERS)


def is_tuple_of(thing, least, most):
    return isinstance(thing, tuple) and least <= len(thing) <= most


def are_words(things):
    return all([is_word(thing) for thing in things])


def has_twice(names):
    return len(set(names)) < len(names)


def is_address(thing):
    return is_tuple_of(thing, 0, MOST_WORDS) and are_words(thing)


def are_rising_words(thing):
    if not is_tuple_of(thing, 1, MOST_CHOICES) or not are_words(thing):
        return False
    return all([one < other for one, other in zip(thing, thing[1:])])


def is_part(thing):
    if not is_tuple_of(thing, 2, 3):
        return False
    if thing[0] == "one":
        return len(thing) == 3 and is_name(thing[1]) and are_rising_words(thing[2])
    if len(thing) != 2:
        return False
    if thing[0] == "word":
        return is_word(thing[1])
    return thing[0] in NAME_ONLY_HOLES and is_name(thing[1])


def is_hole(part):
    return part[0] != "word"


def hole_names(pattern):
    return [part[1] for part in pattern if is_hole(part)]


def hole_named(pattern, name):
    """The hole of this name; None, where there is none."""
    for part in pattern:
        if is_hole(part) and part[1] == name:
            return part
    return None


def is_pattern(thing):
    if not is_tuple_of(thing, 0, MOST_PARTS) or not all([is_part(part) for part in thing]):
        return False
    if any([part[0] == "rest" for part in thing[:-1]]):
        return False
    return not has_twice(hole_names(thing))


def is_row(thing):
    return is_tuple_of(thing, 2, 2) and is_name(thing[0]) and is_pattern(thing[1])


def is_table(thing):
    if not is_tuple_of(thing, 0, MOST_ROWS) or not all([is_row(row) for row in thing]):
        return False
    return not has_twice([row[0] for row in thing])
