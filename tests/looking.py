"""For several tests: any things, plain looks at all addresses, and the forms of texts."""

import functools
import itertools
import random
import re
import unittest

from routeboard.errors import RouteError
from routeboard.matching import does_match, lets_by
from routeboard.patterns import is_address
from routeboard.sites import Site

# Words that tell the small patterns apart: those that they name, a number and a word that none names.
WORDS = ("a", "7", "0", "5", "x")
ADDRESSES = tuple(address for many in range(4) for address in itertools.product(WORDS, repeat=many))
SHAPES = (("word", "a"), ("word", "7"), ("one", ("7", "a")), ("one", ("0", "7")), ("number",), ("any",))
LABELS = ("h", "c", "a", "f", "long", "b", "e", "d")

# As long as words and names can be, and as many as a "one" can have.
LONG_WORDS = ("12345678", "99999999", "abcdefgh", "z-z-z-z-", "00000000", "-0000001")
LONG_NAMES = ("aaaa", "bbbb", "cccc", "dddd", "eeee", "ffff")


def nested(inner, depth, as_list):
    for _ in range(depth):
        inner = [inner] if as_list else (inner,)
    return inner


# Things that are no address, no pattern and no table.
ODD_THINGS = [
    None, True, False, 0, 1, -1, 10 ** 50, "", "a", "word", "/a",
    [], [[]], [()], ((),), ([],), [None], (None,), (True,), (False,), (0,), (1,), ("",),
    ["a"], [("word", "a")], [("a", ())], (("a",),), ((("word", "a"),),), ((("a", ()),),), ([("word", "a")],),
    (("word", "a"), None), (("word", "a"), 1), (("word", "a"), "a"), (("a", ()), None), (("a", ()), True),
    ("a", None), ("a", True), ("a", 1), ("a", ["a"]), ("a", ("a",)), (("any", "a"), ("a", ())),
    nested(None, 10, True), nested(None, 10, False), nested("a", 10, True), nested("a", 10, False),
    nested((), 10, False), nested([], 10, True), nested(("word", "a"), 9, False),
]


class Asking(unittest.TestCase):
    # assertIs: the answer is True or False itself, not something that counts as such.
    def yes(self, ask, *things):
        for thing in things:
            with self.subTest(ask=ask.__name__, thing=thing):
                self.assertIs(ask(thing), True)

    def no(self, ask, *things):
        for thing in things:
            with self.subTest(ask=ask.__name__, thing=thing):
                self.assertIs(ask(thing), False)


def refuses(case, refusal, ask, *handed):
    """Just this refusal, which is a RouteError and a ValueError and none of the others."""
    with case.assertRaises(RouteError) as caught:
        ask(*handed)
    case.assertIs(type(caught.exception), refusal)
    case.assertIsInstance(caught.exception, ValueError)


def part_of(shape, name):
    if shape[0] == "word":
        return shape
    return (shape[0], name) + shape[1:]


def small_patterns():
    """All patterns of up to 2 parts of these shapes: where two differ, an address of up to 3 words shows it."""
    found = [()]
    for many in range(3):
        for shapes in itertools.product(SHAPES, repeat=many):
            parts = tuple(part_of(shape, name) for shape, name in zip(shapes, "pq"))
            if many > 0:
                found.append(parts)
            if many < 2:
                found.append(parts + (("rest", "r"),))
    return found


def small_tables(many, seed):
    chance = random.Random(seed)
    patterns = small_patterns()
    for turn in range(many):
        labels = chance.sample(LABELS, turn % 9)
        yield tuple((label, chance.choice(patterns)) for label in labels)


def great_pattern(chance):
    """A pattern of 6 parts, with words of 8 signs and a "one" of 4 words."""
    parts = []
    for name in LONG_NAMES:
        kind = chance.choice(("word", "one", "one", "number", "any", "any"))
        if kind == "word":
            parts.append(("word", chance.choice(LONG_WORDS)))
        elif kind == "one":
            parts.append(("one", name, tuple(sorted(chance.sample(LONG_WORDS, 4)))))
        else:
            parts.append((kind, name))
    if chance.randrange(2):
        parts[-1] = ("rest", LONG_NAMES[-1])
    return tuple(parts)


def great_table(chance):
    return tuple((label, great_pattern(chance)) for label in LABELS)


@functools.lru_cache(maxsize=None)
def does(pattern, address):
    return does_match(pattern, address)


def leads(table, address):
    """What first tells, looked for row by row."""
    for label, pattern in table:
        if does(pattern, address):
            return label
    return None


def look(is_so):
    """A shortest address of up to 3 words that is so; None."""
    for address in ADDRESSES:
        if is_so(address):
            return address
    return None


def look_far(patterns, is_so):
    """A shortest address that is so, of any length: is_so may hang only on which of the patterns match.

    Tried are, word by word, all words that any pattern names at any place, and a number and a word that none names;
    of the addresses that the same patterns have let by so far, one.
    """
    words = ["55555555", "q-q-q-q-"]
    for part in itertools.chain(*patterns):
        words.extend({"word": part[1:], "one": part[-1]}.get(part[0], ()))
    reached = {tuple(True for _ in patterns): ()}
    for at in range(8):
        for address in reached.values():
            if is_so(address):
                return address
        further = {}
        for open_ones, address in reached.items():
            for word in words:
                still = tuple(so and lets(pattern, at, word) for so, pattern in zip(open_ones, patterns))
                further.setdefault(still, address + (word,))
        reached = further
    return None


def lets(pattern, at, word):
    if pattern[-1:] and pattern[-1][0] == "rest" and at >= len(pattern) - 1:
        return True
    return at < len(pattern) and lets_by(pattern[at], word)


def hold(case, told, seen, is_so):
    """A told address is so and as short as the seen one; where none was seen, None is told."""
    if seen is None:
        case.assertIsNone(told)
        return
    case.assertIs(type(told), tuple)
    case.assertTrue(is_address(told), told)
    case.assertTrue(is_so(told), told)
    case.assertEqual(len(told), len(seen))


def site_of(**tables):
    site = Site()
    for name, table in tables.items():
        site.put(name, table)
    return site


def tables_of(site):
    return {name: site.table_of(name) for name in site.names()}


WORD, NAME = "[a-z0-9-]{1,8}", "[a-z]{1,4}"
PART = f"{WORD}|[:#]{NAME}|{NAME}=(?:{WORD}[|]){{0,3}}{WORD}"
SIGNS = [chr(number) for number in range(32, 127)] + ["\n"]


def is_writing(text):
    """Whether a text is the writing of a pattern, by its form alone; likewise those behind."""
    if text == "/":
        return True
    if not re.fullmatch(f"(?:/(?:{PART})){{0,6}}(?:/[*]{NAME})?", text) or not 1 <= text.count("/") <= 6:
        return False
    names, parts = [], text[1:].split("/")
    for part in parts:
        if "=" in part:
            words = part.split("=")[1].split("|")
            if words != sorted(set(words)):
                return False
        if part[0] in ":#*" or "=" in part:
            names.append(part.split("=")[0].strip(":#*"))
    return len(names) == len(set(names))


def is_address_writing(text):
    return text == "/" or re.fullmatch(f"(?:/{WORD}){{1,8}}", text) is not None


def is_table_writing(text):
    if not re.fullmatch(f"(?:{NAME} [^ \n]+\n){{0,8}}", text):
        return False
    rows = [line.split(" ") for line in text.split("\n")[:-1]]
    return len({row[0] for row in rows}) == len(rows) and all(is_writing(row[1]) for row in rows)


def is_site_writing(text):
    lines = text.split("\n")
    if lines.pop() != "":
        return False
    tables = []
    for line in lines:
        if re.fullmatch(f"\\[{NAME}\\]", line):
            tables.append([line[1:-1], ""])
        elif not tables:
            return False
        else:
            tables[-1][1] += line + "\n"
    names = [name for name, _ in tables]
    return names == sorted(set(names)) and all(is_table_writing(rows) for _, rows in tables)


def changes(text, signs):
    """All texts with a sign put in, taken out or exchanged, a stretch taken out, repeated or turned."""
    for at in range(len(text) + 1):
        for sign in signs:
            yield text[:at] + sign + text[at:]
            yield text[:at] + sign + text[at + 1:]
    for start, end in itertools.combinations(range(len(text) + 1), 2):
        yield text[:start] + text[end:]
        yield text[:end] + text[start:]
        yield text[:start] + text[start:end][::-1] + text[end:]
