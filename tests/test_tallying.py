"""[10.1], [0.2] (j) and [0.3]: how many addresses of some words are matched, led to rows, and matched by two rows."""

import copy
import itertools
import random
import unittest

from looking import LABELS, LONG_WORDS, does, great_pattern, great_table, leads, small_patterns, small_tables
from routeboard.patterns import are_rising_words
from routeboard.tallying import crossings, tallies, tally

# Numbers, words that are none, words that look like numbers.
SOME_WORDS = [("7",), ("a",), ("07",), ("0", "7"), ("a", "x"), ("7", "a"), ("0", "07", "7"), ("0", "7", "a"),
              ("-1", "0", "7", "a"), ("a", "b", "c", "d"), ("0", "5", "7", "x")]

SHOP = (
    ("item", (("word", "a"), ("number", "n"))),
    ("all", (("word", "a"), ("rest", "r"))),
    ("two", (("any", "n"), ("any", "m"))),
    ("home", ()),
    ("late", (("word", "a"), ("word", "0"))),
)


def addresses(words, many):
    return itertools.product(words, repeat=many)


def both(one, other, words, many):
    return sum(does(one, address) and does(other, address) for address in addresses(words, many))


class OnePattern(unittest.TestCase):
    def test_the_words_are_as_asked(self):
        for words in SOME_WORDS:
            self.assertTrue(are_rising_words(words))

    def test_each_kind(self):
        words = ("0", "01", "7", "a")
        for part, count in ((("word", "a"), 1), (("word", "b"), 0), (("any", "n"), 4), (("number", "n"), 2),
                            (("one", "n", ("7", "a", "b")), 2), (("one", "n", ("b", "c")), 0), (("rest", "n"), 4)):
            self.assertEqual(tally((part,), words, 1), count)
            self.assertEqual(tally((("any", "m"), part), words, 2), 4 * count)
            self.assertEqual(tally((part,), words, 0), 1 if part[0] == "rest" else 0)

    def test_no_words(self):
        for words in SOME_WORDS:
            self.assertEqual(tally((), words, 0), 1)
            self.assertEqual(tally((("rest", "r"),), words, 0), 1)
            self.assertEqual(tally((("any", "n"),), words, 0), 0)
            self.assertEqual(tally((), words, 1), 0)

    def test_a_rest(self):
        for words in SOME_WORDS:
            for many in range(5):
                self.assertEqual(tally((("rest", "r"),), words, many), len(words) ** many)
        self.assertEqual(tally((("word", "a"), ("rest", "r")), ("a", "b", "c"), 4), 27)
        self.assertEqual(tally((("word", "a"), ("rest", "r")), ("a", "b", "c"), 1), 1)
        self.assertEqual(tally((("any", "n"), ("number", "m"), ("rest", "r")), ("0", "7", "a"), 4), 3 * 2 * 9)

    def test_patterns_that_are_longer_or_shorter(self):
        for many in range(5):
            for parts in range(7):
                pattern = tuple(("any", name) for name in "abcdef"[:parts])
                self.assertEqual(tally(pattern, ("a", "b"), many), 2 ** many if many == parts else 0)

    def test_a_plain_count(self):
        patterns = [row[1] for row in SHOP] + random.Random(101).sample(small_patterns(), 30)
        for pattern in patterns:
            for words in SOME_WORDS:
                for many in range(5):
                    wanted = sum(does(pattern, address) for address in addresses(words, many))
                    self.assertEqual(tally(pattern, words, many), wanted)

    def test_longer_patterns_by_a_plain_count(self):
        chance = random.Random(102)
        for _ in range(200):
            pattern = great_pattern(chance)
            pattern = pattern[:chance.randrange(5)] + pattern[5:] * chance.randrange(2)
            words = tuple(sorted(chance.sample(LONG_WORDS, chance.randrange(1, 5))))
            for many in range(5):
                wanted = sum(does(pattern, address) for address in addresses(words, many))
                self.assertEqual(tally(pattern, words, many), wanted)

    def test_somewhat_beyond_the_bounds(self):
        words = ("a", "b", "c", "d", "ninesigns")
        self.assertEqual(tally((("rest", "r"),), words, 8), 5 ** 8)
        told = tallies((("a", (("word", "a"), ("rest", "r"))),), words, 8)
        self.assertEqual(told, [("a", 5 ** 7), (None, 4 * 5 ** 7)])
        self.assertEqual(tallies((("a", ()), ("b", (("rest", "r"),))), words, -1), [("a", 0), ("b", 0), (None, 0)])
        self.assertEqual(tally((), words, -1), 0)


class WholeTables(unittest.TestCase):
    def test_a_table_without_rows(self):
        for words in SOME_WORDS:
            for many in range(5):
                self.assertEqual(tallies((), words, many), [(None, len(words) ** many)])
                self.assertEqual(crossings((), words, many), [])

    def test_rows_behind_others(self):
        words = ("0", "7", "a")
        labels = ["item", "all", "two", "home", "late", None]
        for many, counts in ((0, [0, 0, 0, 1, 0, 0]), (1, [0, 1, 0, 0, 0, 2]), (2, [2, 1, 6, 0, 0, 0]),
                             (3, [0, 9, 0, 0, 0, 18])):
            self.assertEqual(tallies(SHOP, words, many), list(zip(labels, counts)))
        self.assertEqual(tallies(SHOP[::-1], words, 2),
                         [("late", 1), ("home", 0), ("two", 8), ("all", 0), ("item", 0), (None, 0)])

    def test_what_is_told(self):
        told = tallies(SHOP, ("a",), 1)
        self.assertIs(type(told), list)
        self.assertTrue(all(type(pair) is tuple for pair in told))
        self.assertIsNone(told[-1][0])
        told = crossings(SHOP, ("a",), 2)
        self.assertIs(type(told), list)
        self.assertTrue(all(type(row) is tuple for row in told))

    def test_crossings(self):
        words = ("0", "7", "a")
        self.assertEqual(crossings(SHOP, words, 0), [])
        self.assertEqual(crossings(SHOP, words, 1), [])
        self.assertEqual(crossings(SHOP, words, 2), [
            ("item", "all", 2), ("item", "two", 2), ("item", "late", 1), ("all", "two", 3), ("all", "late", 1),
            ("two", "late", 1)])
        self.assertEqual(crossings(SHOP[::-1], words, 2), [
            ("late", "two", 1), ("late", "all", 1), ("late", "item", 1), ("two", "all", 3), ("two", "item", 2),
            ("all", "item", 2)])
        self.assertEqual(crossings(SHOP, ("7", "b"), 2), [])
        self.assertEqual(crossings((("a", ()), ("b", (("rest", "r"),))), ("x",), 0), [("a", "b", 1)])

    def test_a_plain_count(self):
        for table in small_tables(45, 103):
            for words in SOME_WORDS[::2]:
                for many in range(5):
                    self.holds(table, words, many)

    def test_at_the_bounds_by_a_plain_count(self):
        chance = random.Random(104)
        for _ in range(30):
            table = tuple((label, pattern[2:]) for label, pattern in great_table(chance))
            self.holds(table, tuple(sorted(chance.sample(LONG_WORDS, 4))), 4)

    def holds(self, table, words, many):
        led = [leads(table, address) for address in addresses(words, many)]
        told = tallies(table, words, many)
        self.assertEqual(told, [(label, led.count(label)) for label in [row[0] for row in table] + [None]])
        self.assertEqual(sum(count for _, count in told), len(words) ** many)
        wanted = [(one, other, both(dict(table)[one], dict(table)[other], words, many))
                  for one, other in itertools.combinations(dict(table), 2)]
        self.assertEqual(crossings(table, words, many), [row for row in wanted if row[2] > 0])

    def test_one_pattern_in_many_rows(self):
        table = tuple((label, (("any", "n"),)) for label in LABELS)
        counts = [(LABELS[0], 2)] + [(label, 0) for label in LABELS[1:]] + [(None, 0)]
        self.assertEqual(tallies(table, ("a", "b"), 1), counts)
        pairs = [(one, other, 2) for one, other in itertools.combinations(LABELS, 2)]
        self.assertEqual(crossings(table, ("a", "b"), 1), pairs)


class HandedInAndTold(unittest.TestCase):
    def test_what_is_handed_in_is_not_changed(self):
        words = ("0", "7", "a")
        before = copy.deepcopy((SHOP, words))
        tally(SHOP[0][1], words, 2)
        tallies(SHOP, words, 2)
        crossings(SHOP, words, 2)
        self.assertEqual((SHOP, words), before)

    def test_a_told_list_is_its_getters_own(self):
        for ask in (tallies, crossings):
            for many in (0, 2):
                before = list(ask(SHOP, ("0", "a"), many))
                ask(SHOP, ("0", "a"), many).clear()
                ask(SHOP, ("0", "a"), many).append(None)
                self.assertEqual(ask(SHOP, ("0", "a"), many), before)
                self.assertIsNot(ask(SHOP, ("0", "a"), many), ask(SHOP, ("0", "a"), many))


if __name__ == "__main__":
    unittest.main()
