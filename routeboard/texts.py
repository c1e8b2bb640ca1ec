"""Addresses, patterns and tables written as texts, and read back from just these."""

from routeboard.errors import NoText
from routeboard.patterns import is_address, is_pattern, is_table

# The signs ahead of the names of holes; a hole of the kind "one" has its sign behind its name.
SIGNS = (("any", ":"), ("number", "#"), ("rest", "*"))


def written_part(part):
    for kind, sign in SIGNS:
        if part[0] == kind:
            return sign + part[1]
    if part[0] == "one":
        return part[1] + "=" + "|".join(part[2])
    return part[1]


def with_slashes(texts):
    return "/" + "/".join(texts)


def written(pattern):
    return with_slashes([written_part(part) for part in pattern])


def address_text(address):
    return with_slashes(address)


def between_slashes(text):
    if not text.startswith("/"):
        raise NoText("there is no / ahead")
    return [] if text == "/" else text[1:].split("/")


def read_part(text):
    """What could be the part with this writing; whether it is a part at all is not looked at."""
    for kind, sign in SIGNS:
        if text.startswith(sign):
            return (kind, text[1:])
    if "=" in text:
        pieces = text.partition("=")
        return ("one", pieces[0], tuple(pieces[2].split("|")))
    return ("word", text)


def read(text):
    pattern = tuple([read_part(part) for part in between_slashes(text)])
    if not is_pattern(pattern):
        raise NoText("this is the writing of no pattern")
    return pattern


def read_address(text):
    address = tuple(between_slashes(text))
    if not is_address(address):
        raise NoText("this is the writing of no address")
    return address


def written_row(row):
    return row[0] + " " + written(row[1]) + "\n"


def written_table(table):
    return "".join([written_row(row) for row in table])


def lines_of(text):
    if text == "":
        return []
    if not text.endswith("\n"):
        raise NoText("the last line is not ended by a line feed")
    return text[:-1].split("\n")


def read_row(line):
    pieces = line.partition(" ")
    # Where there is no blank, nothing is left to read, which is the writing of no pattern.
    return (pieces[0], read(pieces[2]))


def read_table(text):
    table = tuple([read_row(line) for line in lines_of(text)])
    if not is_table(table):
        raise NoText("this is the writing of no table")
    return table
