"""[5.1], [5.2], [5.3], [0.2] (e) and [0.3]: tables below beginnings, put together, and gone down word by word."""

import copy
import itertools
import random
import unittest

from looking import ADDRESSES, LABELS, LONG_WORDS, WORDS, great_table, leads, refuses, small_tables
from routeboard.errors import TooMany
from routeboard.matching import does_match, matched
from routeboard.mounting import below, joined, label_by_words, mounted
from routeboard.patterns import is_table
from routeboard.tables import all_rows, first, led

SHOP = (
    ("home", ()),
    ("item", (("number", "id"),)),
    ("kind", (("one", "k", ("a", "b")), ("any", "x"))),
    ("all", (("word", "a"), ("rest", "more"))),
)

HOLES = (("any", "n"), ("number", "n"), ("one", "n", ("a", "b")), ("rest", "n"))

# Holes of other names than those of the small tables.
AHEADS = [
    (), (("word", "a"),), (("number", "m"),), (("one", "m", ("0", "x")),), (("any", "m"),),
    (("word", "7"), ("any", "m")), (("any", "m"), ("number", "n")),
]


def words(many):
    return tuple([("word", "a")] * many)


def table_of(*patterns):
    return tuple(zip(LABELS, patterns))


class Mounting(unittest.TestCase):
    def too_many(self, ahead, *patterns):
        with self.subTest(ahead=ahead, patterns=patterns):
            refuses(self, TooMany, mounted, ahead, table_of(*patterns))

    def tells(self, ahead, patterns, wanted):
        with self.subTest(ahead=ahead, patterns=patterns):
            self.assertEqual(mounted(ahead, table_of(*patterns)), table_of(*wanted))

    def test_no_parts_ahead(self):
        for table in [(), SHOP, *small_tables(30, 41)]:
            self.assertEqual(mounted((), table), table)

    def test_parts_ahead(self):
        ahead = (("word", "shop"), ("any", "who"))
        self.assertEqual(mounted(ahead, SHOP), (
            ("home", ahead),
            ("item", ahead + (("number", "id"),)),
            ("kind", ahead + (("one", "k", ("a", "b")), ("any", "x"))),
            ("all", ahead + (("word", "a"), ("rest", "more"))),
        ))

    def test_it_is_a_table(self):
        for ahead in AHEADS:
            told = mounted(ahead, SHOP)
            self.assertIs(type(told), tuple)
            self.assertTrue(is_table(told))

    def test_6_parts_in_all_and_7(self):
        for ahead in range(7):
            behind = 6 - ahead
            self.tells(words(ahead), [words(behind)], [words(6)])
            self.too_many(words(ahead), words(behind + 1))
            if behind > 0:
                rest = (("rest", "r"),)
                self.tells(words(ahead), [words(behind - 1) + rest], [words(5) + rest])
                self.too_many(words(ahead), words(behind) + rest)

    def test_one_row_that_is_too_long_among_others(self):
        for at in range(8):
            patterns = [words(4)] * 8
            self.tells(words(2), patterns, [words(6)] * 8)
            patterns[at] = words(5)
            self.too_many(words(2), *patterns)

    def test_a_name_twice(self):
        for mine in HOLES[:3]:
            for its in HOLES:
                self.too_many((mine,), (its,))
                self.too_many((mine, ("word", "a")), (("any", "m"), its))
                self.too_many((mine,), (), (("any", "m"),), (its,))

    def test_a_name_in_two_rows_or_as_a_word_is_not_twice(self):
        self.tells((("any", "n"),), [(("any", "m"),), (("number", "m"),)],
                   [(("any", "n"), ("any", "m")), (("any", "n"), ("number", "m"))])
        self.tells((("any", "n"),), [(("word", "n"),)], [(("any", "n"), ("word", "n"))])
        self.tells((("word", "n"),), [(("any", "n"),)], [(("word", "n"), ("any", "n"))])
        self.assertEqual(mounted((("any", "n"),), (("n", ()),)), (("n", (("any", "n"),)),))

    def test_a_rest_ahead_of_parts(self):
        for ahead in ((("rest", "r"),), (("word", "a"), ("any", "m"), ("rest", "r"))):
            for part in (("word", "a"), ("rest", "s")) + HOLES:
                self.too_many(ahead, (part,))
                self.too_many(ahead, (), (part,))

    def test_a_rest_ahead_of_no_parts(self):
        self.tells((("rest", "r"),), [()], [(("rest", "r"),)])
        self.tells((("word", "a"), ("rest", "r")), [(), ()], [(("word", "a"), ("rest", "r"))] * 2)

    def test_a_table_without_rows(self):
        for ahead in AHEADS + [(("rest", "r"),), words(6), words(5) + (("rest", "r"),)]:
            self.assertEqual(mounted(ahead, ()), ())

    def test_what_is_behind_the_first_words_is_led_as_in_the_table(self):
        for table, ahead in zip(small_tables(63, 42), itertools.cycle(AHEADS)):
            told = mounted(ahead, table)
            for address in ADDRESSES:
                start, behind = address[:len(ahead)], address[len(ahead):]
                wanted = leads(table, behind) if does_match(ahead, start) else None
                self.assertEqual(first(told, address), wanted)

    def test_with_the_values_of_both(self):
        ahead = (("any", "who"), ("number", "year"))
        told = led(mounted(ahead, SHOP), ("me", "2026", "a", "b", "c"))
        self.assertEqual(told, ("all", [("who", "me"), ("year", 2026), ("more", ("b", "c"))]))
        for table in small_tables(30, 43):
            for address in ADDRESSES:
                told = led(mounted(ahead, table), ("me", "7") + address)
                plain = led(table, address)
                wanted = None if plain is None else (plain[0], matched(ahead, ("me", "7")) + plain[1])
                self.assertEqual(told, wanted)

    def test_of_what_is_no_pattern_already(self):
        self.too_many((), words(7))
        self.too_many((), (("word", "ninesigns"),))
        self.too_many((("any", "names"),), ())

    def test_somewhat_beyond_the_bounds_nothing_else_is_refused(self):
        rows = tuple((label, ()) for label in "abcdefghi") + (("labels", ()),)
        self.assertEqual(mounted(words(1), rows), tuple((label, words(1)) for label, _ in rows))
        self.assertEqual(mounted(words(7), ()), ())


class Joining(unittest.TestCase):
    def rows(self, labels):
        return tuple((label, (("word", label),)) for label in labels)

    def test_the_rows_of_the_one_and_then_of_the_other(self):
        one, other = self.rows("db"), self.rows("ca")
        self.assertEqual(joined(one, other), one + other)
        self.assertEqual(joined(other, one), other + one)
        self.assertIs(type(joined(one, other)), tuple)

    def test_without_rows(self):
        for table in ((), SHOP, self.rows("abcdefgh")):
            self.assertEqual(joined(table, ()), table)
            self.assertEqual(joined((), table), table)

    def test_8_rows_and_9(self):
        for many in range(9):
            labels = "abcdefgh"
            self.assertEqual(joined(self.rows(labels[:many]), self.rows(labels[many:])), self.rows(labels))
            refuses(self, TooMany, joined, self.rows("abcdefghi"[:many]), self.rows("abcdefghi"[many:]))
        refuses(self, TooMany, joined, self.rows("abcdefgh"), self.rows("ijklmnop"))

    def test_a_label_in_both(self):
        refuses(self, TooMany, joined, self.rows("ab"), self.rows("cb"))
        refuses(self, TooMany, joined, self.rows("a"), self.rows("a"))
        refuses(self, TooMany, joined, self.rows("abcd"), self.rows("efga"))
        refuses(self, TooMany, joined, (("a", ()),), (("a", (("word", "b"),)),))
        refuses(self, TooMany, joined, SHOP, SHOP)

    def test_a_label_in_both_and_9_rows(self):
        refuses(self, TooMany, joined, self.rows("abcd"), self.rows("defgh"))

    def test_one_pattern_in_both_is_no_harm(self):
        self.assertEqual(joined((("a", ()),), (("b", ()),)), (("a", ()), ("b", ())))

    def test_the_one_leads_and_else_the_other(self):
        tables = [table for table in small_tables(80, 44) if len(table) <= 4]
        for one, table in zip(tables, tables[1:]):
            other = tuple((label[0] + "o", pattern) for label, pattern in table)
            for address in ADDRESSES:
                wanted = leads(one, address) or leads(other, address)
                self.assertEqual(first(joined(one, other), address), wanted)


class GoingBelow(unittest.TestCase):
    def tells(self, pattern, word, wanted):
        with self.subTest(pattern=pattern, word=word):
            told = below((("a", pattern),), word)
            self.assertEqual(told, () if wanted is None else (("a", wanted),))
            self.assertIs(type(told), tuple)

    def test_each_kind_of_first_part(self):
        for behind in ((), (("word", "b"),), (("any", "m"), ("rest", "r"))):
            for part, let, stopped in (
                    (("word", "7"), ("7",), ("07", "a", "77")),
                    (("any", "n"), ("7", "a", "-"), ()),
                    (("number", "n"), ("0", "7", "99999999"), ("07", "a", "-1", "00")),
                    (("one", "n", ("7", "a")), ("7", "a"), ("b", "0", "7a"))):
                for word in let:
                    self.tells((part,) + behind, word, behind)
                for word in stopped:
                    self.tells((part,) + behind, word, None)

    def test_a_pattern_without_parts(self):
        for word in ("a", "7"):
            self.tells((), word, None)

    def test_a_rest_as_the_first_part_stays(self):
        for word in ("a", "7", "-"):
            self.tells((("rest", "r"),), word, (("rest", "r"),))
        table = (("a", (("rest", "r"),)),)
        self.assertEqual(below(below(below(table, "a"), "b"), "7"), table)

    def test_a_rest_behind_other_parts(self):
        self.tells((("word", "a"), ("rest", "r")), "a", (("rest", "r"),))
        self.tells((("word", "a"), ("rest", "r")), "b", None)
        self.tells((("any", "n"), ("any", "m"), ("rest", "r")), "b", (("any", "m"), ("rest", "r")))

    def test_rows_in_their_order(self):
        self.assertEqual(below(SHOP, "a"), (("kind", (("any", "x"),)), ("all", (("rest", "more"),))))
        self.assertEqual(below(SHOP[::-1], "a"), (("all", (("rest", "more"),)), ("kind", (("any", "x"),))))
        self.assertEqual(below(SHOP, "7"), (("item", ()),))
        self.assertEqual(below(SHOP, "c"), ())
        self.assertEqual(below((), "a"), ())

    def test_an_address_is_led_below_as_the_word_and_the_address(self):
        short = [address for address in ADDRESSES if len(address) < 3]
        for table in small_tables(60, 45):
            for word in WORDS:
                told = below(table, word)
                self.assertTrue(is_table(told))
                for address in short:
                    self.assertEqual(all_rows(told, address), all_rows(table, (word,) + address))
                    self.assertEqual(first(told, address), leads(table, (word,) + address))

    def test_below_one_mounted_below_a_word_is_the_table(self):
        for table in small_tables(20, 46):
            self.assertEqual(below(mounted((("word", "a"),), table), "a"), table)
            self.assertEqual(below(mounted((("word", "a"),), table), "b"), ())


class WordByWord(unittest.TestCase):
    def same(self, table, address, label):
        with self.subTest(table=table, address=address):
            self.assertEqual(label_by_words(table, address), label)
            self.assertEqual(first(table, address), label)

    def test_no_row_one_row_and_several(self):
        self.same(SHOP, ("c",), None)
        self.same(SHOP, ("7", "7"), None)
        self.same(SHOP, ("7",), "item")
        self.same(SHOP, ("b", "x"), "kind")
        self.same(SHOP, ("a", "x"), "kind")
        self.same(SHOP[::-1], ("a", "x"), "all")
        self.same(SHOP, ("a",) * 8, "all")

    def test_the_address_without_words(self):
        self.same(SHOP, (), "home")
        self.same(SHOP[1:], (), None)
        self.same((("a", (("any", "n"), ("rest", "r"))), ("b", (("rest", "r"),)), ("c", ())), (), "b")

    def test_a_table_without_rows(self):
        for address in ((), ("a",), ("a",) * 8):
            self.same((), address, None)

    def test_a_plain_look(self):
        for table in small_tables(90, 47):
            for address in ADDRESSES:
                self.assertEqual(label_by_words(table, address), leads(table, address))

    def test_at_the_bounds(self):
        chance = random.Random(48)
        seen = set()
        for _ in range(60):
            table = great_table(chance)
            for _ in range(40):
                address = tuple(chance.choice(LONG_WORDS) for _ in range(chance.randrange(5, 9)))
                told = label_by_words(table, address)
                self.assertEqual(told, leads(table, address))
                seen.add(told)
        self.assertGreater(len(seen), 4)

    def test_somewhat_beyond_the_bounds(self):
        rows = tuple((label, (("word", "ninesigns"),) * 7) for label in "abcdefghi") + (("labels", (("rest", "r"),)),)
        self.same(rows, ("ninesigns",) * 7, "a")
        self.same(rows, ("ninesigns",) * 9, "labels")


class HandedInAndTold(unittest.TestCase):
    def test_what_is_handed_in_is_not_changed(self):
        ahead, other = (("word", "w"), ("rest", "more")), (("new", (("any", "n"),)),)
        before = copy.deepcopy((ahead, SHOP, other))
        for ask, handed in ((mounted, (ahead, SHOP)), (mounted, (ahead[:1], SHOP)), (joined, (SHOP, other)),
                            (joined, (SHOP, SHOP)), (below, (SHOP, "a")), (label_by_words, (SHOP, ("a", "b")))):
            try:
                ask(*handed)
            except TooMany:
                pass
            self.assertEqual((ahead, SHOP, other), before)

    def test_asked_again_the_same_is_told(self):
        for _ in range(3):
            self.assertEqual(mounted(words(1), SHOP[:1]), (("home", words(1)),))
            refuses(self, TooMany, mounted, words(6), SHOP)
            self.assertEqual(joined(SHOP[:1], SHOP[1:]), SHOP)
            refuses(self, TooMany, joined, SHOP, SHOP)
            self.assertEqual(below(SHOP, "7"), (("item", ()),))
            self.assertEqual(label_by_words(SHOP, ("7",)), "item")


if __name__ == "__main__":
    unittest.main()
