"""[8.1], [8.2], [8.3], [0.2] (h) and [0.3]: texts of addresses, patterns and tables, and what is read from them."""

import copy
import itertools
import random
import unittest

from looking import (ADDRESSES, LABELS, SIGNS, changes, great_table, is_address_writing, is_table_writing, is_writing,
                     refuses, small_patterns, small_tables)
from routeboard.errors import NoText
from routeboard.patterns import is_table
from routeboard.texts import address_text, read, read_address, read_table, written, written_table

SHOP = (("word", "shop"), ("any", "id"), ("one", "kind", ("a", "b")), ("rest", "more"))
SHOP_TEXT = "/shop/:id/kind=a|b/*more"

PATTERNS = [
    ((), "/"),
    ((("word", "a"),), "/a"),
    ((("word", "-"),), "/-"),
    ((("word", "abcdef-8"),), "/abcdef-8"),
    ((("any", "n"),), "/:n"),
    ((("any", "name"),), "/:name"),
    ((("number", "n"),), "/#n"),
    ((("rest", "n"),), "/*n"),
    ((("one", "n", ("a",)),), "/n=a"),
    ((("one", "name", ("0", "1", "a", "b-b")),), "/name=0|1|a|b-b"),
    ((("one", "n", ("-", "12345678", "zzzzzzzz")),), "/n=-|12345678|zzzzzzzz"),
    ((("word", "n"), ("any", "n")), "/n/:n"),
    ((("any", "a"), ("number", "b"), ("one", "c", ("a",)), ("rest", "d")), "/:a/#b/c=a/*d"),
    ((("word", "a"),) * 6, "/a/a/a/a/a/a"),
    ((("word", "a"),) * 5 + (("rest", "r"),), "/a/a/a/a/a/*r"),
    (SHOP, SHOP_TEXT),
]

ADDRESS_TEXTS = [
    ((), "/"), (("a",), "/a"), (("-",), "/-"), (("a", "b"), "/a/b"), (("07", "0", "-1"), "/07/0/-1"),
    (("12345678",) * 8, "/12345678" * 8),
]

NO_PATTERNS = [
    # no / ahead, none at all, at the end, two together
    "", "a", "shop/a", ":n", "a/", "/a/", "/:n/", "//", "///", "//a", "/a//b", "/a/b//",
    # signs that no word has, words and names that are too long, or none
    "/A", "/a b", "/a_b", "/a.b", "/a:b", "/a#", "/a*", "/|", "/a|b", "/~", "/abcdefghi", "/:names", "/#names",
    "/*names", "/names=a", "/:", "/#", "/*", "/=", "/=a", "/:N", "/:1", "/:a1", "/#-", "/* ", "/::a", "/:#a", "/n=:a",
    "/a/:", "/:/a", "/#/a", "/a/*",
    # the words of one
    "/n=", "/n=|", "/n=a|", "/n=|a", "/n=a||b", "/n=b|a", "/n=a|a", "/n=a|b|a", "/n=10|9|8", "/n=a|b|c|d|e", "/n=A",
    "/n=abcdefghi", "/n=a|abcdefghi", "/n=a=b", "/n==a", "/n=a|=b", "/1=a", "/-=a", "/:n=a", "/n=a b",
    # a name twice, a rest not at the end, 7 parts
    "/:n/:n", "/:n/#n", "/#n/n=a", "/n=a/n=b", "/:n/*n", "/:n/a/*n", "/*r/a", "/*r/:n", "/*r/*s", "/a/*r/b", "/*r/",
    "/a/a/a/a/a/a/a", "/a/a/a/a/a/a/*r", "/:a/:b/:c/:d/:e/:f/:g",
    # blanks and line feeds
    " ", " /", "/ ", " /a", "/a ", "/ a", "\n", "/\n", "\n/", "/a\n", "\n/a", "/a\n/b", "/:n\n", "/*r\n", "/n=a\n",
    "/n=\na",
]

NO_ADDRESSES = [
    "", "a", "a/", "/a/", "//", "//a", "/a//b", "/A", "/a b", "/a_b", "/:n", "/#n", "/*r", "/n=a", "/a|b", "/abcdefghi",
    "/a/abcdefghi", "/a" * 9, "/a" * 10, " ", " /", "/ ", " /a", "/a ", "\n", "/\n", "\n/a", "/a\n", "/a\n/b", "/~",
    "/a.b",
]


class Texts(unittest.TestCase):
    def either(self, reads, writes, is_one, text):
        """A text is read as what writes just this text, or it is none and refused."""
        if is_one(text):
            self.assertEqual(writes(reads(text)), text)
        else:
            refuses(self, NoText, reads, text)


class Patterns(Texts):
    def test_written_and_read_back(self):
        for pattern, text in PATTERNS:
            with self.subTest(text=text):
                self.assertEqual(written(pattern), text)
                self.assertEqual(read(text), pattern)
                self.assertTrue(is_writing(text))

    def test_what_is_read_is_made_of_tuples(self):
        told = read(SHOP_TEXT)
        self.assertIs(type(told), tuple)
        self.assertTrue(all(type(part) is tuple for part in told))
        self.assertIs(type(told[2][2]), tuple)

    def test_texts_that_are_none(self):
        for text in NO_PATTERNS:
            with self.subTest(text=text):
                self.assertFalse(is_writing(text))
                refuses(self, NoText, read, text)

    def test_each_sign_by_itself_and_in_each_place(self):
        for sign in SIGNS:
            for form in ("{}", "/{}", "/{}n", "/a{}", "/n={}", "/n=a{}b", "/:{}"):
                self.either(read, written, is_writing, form.replace("{}", sign))

    def test_all_small_changes_of_right_texts(self):
        for _, text in PATTERNS:
            for changed in changes(text, SIGNS if len(text) < 12 else "a0-/:#*=| A\n"):
                self.either(read, written, is_writing, changed)

    def test_all_short_texts(self):
        for many in range(6):
            for signs in itertools.product("/a:=|*", repeat=many):
                self.either(read, written, is_writing, "".join(signs))

    def test_patterns_at_random(self):
        chance = random.Random(81)
        patterns = small_patterns() + [row[1] for _ in range(30) for row in great_table(chance)]
        for pattern in patterns:
            self.assertEqual(read(written(pattern)), pattern)

    def test_unlike_patterns_have_unlike_texts(self):
        patterns = set(small_patterns())
        self.assertEqual(len({written(pattern) for pattern in patterns}), len(patterns))

    def test_somewhat_beyond_the_bounds_all_is_written(self):
        self.assertEqual(written((("word", "ninesigns"),) * 7), "/ninesigns" * 7)
        self.assertEqual(written((("one", "names", ("a", "b", "c", "d", "e")),)), "/names=a|b|c|d|e")


class Addresses(Texts):
    def test_written_and_read_back(self):
        for address, text in ADDRESS_TEXTS:
            with self.subTest(text=text):
                self.assertEqual(address_text(address), text)
                self.assertEqual(read_address(text), address)
                self.assertIs(type(read_address(text)), tuple)
        for address in ADDRESSES:
            self.assertEqual(read_address(address_text(address)), address)

    def test_8_words_and_9(self):
        self.assertEqual(read_address("/a" * 8), ("a",) * 8)
        refuses(self, NoText, read_address, "/a" * 9)
        self.assertEqual(address_text(("a",) * 9), "/a" * 9)

    def test_texts_that_are_none(self):
        for text in NO_ADDRESSES:
            with self.subTest(text=text):
                refuses(self, NoText, read_address, text)

    def test_all_small_changes_of_right_texts(self):
        for _, text in ADDRESS_TEXTS:
            for changed in changes(text, SIGNS if len(text) < 12 else "a0-/: A\n"):
                self.either(read_address, address_text, is_address_writing, changed)

    def test_all_short_texts(self):
        for many in range(6):
            for signs in itertools.product("/a:-\n", repeat=many):
                self.either(read_address, address_text, is_address_writing, "".join(signs))

    def test_an_address_is_written_as_the_pattern_of_its_words(self):
        for address in ADDRESSES:
            self.assertEqual(address_text(address), written(tuple(("word", word) for word in address)))


class Tables(Texts):
    TABLE = (("shop", SHOP), ("home", ()), ("n", (("number", "n"),)))
    TEXT = "shop /shop/:id/kind=a|b/*more\nhome /\nn /#n\n"

    def none(self, *texts):
        for text in texts:
            with self.subTest(text=text):
                self.assertFalse(is_table_writing(text))
                refuses(self, NoText, read_table, text)

    def test_the_table_without_rows(self):
        self.assertEqual(written_table(()), "")
        self.assertEqual(read_table(""), ())

    def test_one_row_and_three(self):
        self.assertEqual(written_table((("a", ()),)), "a /\n")
        self.assertEqual(read_table("a /\n"), (("a", ()),))
        self.assertEqual(written_table(self.TABLE), self.TEXT)
        self.assertEqual(read_table(self.TEXT), self.TABLE)
        self.assertTrue(is_table(read_table(self.TEXT)))

    def test_8_rows_and_9(self):
        text = "".join(f"{label} {SHOP_TEXT}\n" for label in "abcdefgh")
        self.assertEqual(read_table(text), tuple((label, SHOP) for label in "abcdefgh"))
        self.assertEqual(written_table(read_table(text)), text)
        self.none(text + "i /\n", text + text)
        self.assertEqual(written_table(tuple((label, ()) for label in "abcdefghi")).count("\n"), 9)

    def test_no_line_feed_at_the_end(self):
        self.none("a /", "a /\nb /", self.TEXT[:-1], "a", "/")

    def test_an_empty_line(self):
        self.none("\n", "\n\n", "\na /\n", "a /\n\n", "a /\n\nb /\n")

    def test_blanks(self):
        self.none("a  /\n", " a /\n", "a / \n", "a /\n ", "a/\n", "a\n", " \n", "  \n", " /\n", "a \n", "a b /\n",
                  "a /x y\n", "a /\n b /\n", " ")

    def test_a_label_twice(self):
        self.none("a /\na /\n", "a /\nb /\na /x\n", self.TEXT + self.TEXT)

    def test_a_label_that_is_no_name(self):
        self.none("A /\n", "a1 /\n", "labels /\n", "- /\n", "/ /\n", ": /\n", "a: /\n")

    def test_what_is_no_pattern(self):
        for text in NO_PATTERNS:
            self.none(f"a {text}\n")
            self.none(f"b /\na {text}\nc /:n\n")

    def test_lines_left_out_twice_and_in_another_order(self):
        lines = self.TEXT.splitlines(keepends=True)
        rows = dict(zip(lines, self.TABLE))
        for many in range(4):
            for some in itertools.permutations(lines, many):
                self.assertEqual(read_table("".join(some)), tuple(rows[line] for line in some))
        for some in itertools.product(lines, repeat=3):
            self.either(read_table, written_table, is_table_writing, "".join(some))

    def test_all_small_changes_of_right_texts(self):
        for text in ("a /\n", "ab /x\nc /:n\n", self.TEXT):
            for changed in changes(text, SIGNS if len(text) < 20 else "an0/:#*=| A\n"):
                self.either(read_table, written_table, is_table_writing, changed)

    def test_all_short_texts(self):
        for many in range(8):
            for signs in itertools.product("a /\n", repeat=many):
                self.either(read_table, written_table, is_table_writing, "".join(signs))

    def test_tables_at_random(self):
        chance = random.Random(82)
        for table in list(small_tables(90, 83)) + [great_table(chance) for _ in range(20)]:
            self.assertEqual(read_table(written_table(table)), table)

    def test_at_the_bounds(self):
        pattern = tuple(("one", name * 4, ("abcdefg0", "abcdefg1", "abcdefg2", "abcdefg3")) for name in "abcdef")
        table = tuple((label * 4, pattern) for label in "abcdefgh")
        self.assertTrue(is_table(table))
        self.assertEqual(read_table(written_table(table)), table)


class HandedInAndTold(unittest.TestCase):
    def test_what_is_handed_in_is_not_changed(self):
        table = tuple((label, SHOP) for label in LABELS)
        before = copy.deepcopy((SHOP, table, ADDRESSES))
        written(SHOP)
        written_table(table)
        address_text(ADDRESSES[-1])
        self.assertEqual((SHOP, table, ADDRESSES), before)

    def test_asked_again_the_same_is_told(self):
        for _ in range(3):
            self.assertEqual(written(SHOP), SHOP_TEXT)
            self.assertEqual(read(SHOP_TEXT), SHOP)
            refuses(self, NoText, read, "/:n/:n")
            self.assertEqual(read_address("/a/b"), ("a", "b"))
            refuses(self, NoText, read_address, "/a/")
            self.assertEqual(read_table(Tables.TEXT), Tables.TABLE)
            refuses(self, NoText, read_table, "a /\na /\n")


if __name__ == "__main__":
    unittest.main()
