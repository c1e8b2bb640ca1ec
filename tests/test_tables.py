"""[3.1], [3.2], [0.2] (b) and [0.3]: rows that match, the first, the most special one, and rows by ranks."""

import copy
import random
import unittest

from looking import ADDRESSES, LABELS, LONG_WORDS, great_table, small_tables
from routeboard import errors
from routeboard.errors import NoRow, RouteError
from routeboard.matching import does_match, matched
from routeboard.patterns import is_table
from routeboard.tables import all_rows, best, by_ranks, first, led, pattern_of

SHOP = (
    ("all", (("word", "shop"), ("rest", "more"))),
    ("item", (("word", "shop"), ("number", "id"))),
    ("kind", (("word", "shop"), ("one", "k", ("a", "b")))),
    ("home", ()),
    ("any", (("any", "x"),)),
    ("two", (("any", "x"), ("any", "y"))),
)

# A full table whose patterns are as long as patterns can be.
LASTS = [("rest", "eeee")] * 3 + [("any", "eeee")] * 3 + [("number", "eeee"), ("rest", "ffff")]
FULL = tuple(
    (label, (("word", word), ("one", "aaaa", tuple(sorted(LONG_WORDS[:4]))), ("number", "bbbb"), ("any", "cccc"),
             ("any", "dddd"), last))
    for label, word, last in zip(LABELS, LONG_WORDS + LONG_WORDS, LASTS)
)


def full_address(word):
    return (word, "99999999", "0", "x", "y", "12345678")


class RowsThatMatch(unittest.TestCase):
    def tells(self, table, address, labels):
        with self.subTest(address=address):
            self.assertEqual(all_rows(table, address), labels)
            self.assertIs(type(all_rows(table, address)), list)
            self.assertEqual(first(table, address), labels[0] if labels else None)

    def test_a_table_without_rows(self):
        for address in ((), ("a",), ("a",) * 8):
            self.tells((), address, [])
            self.assertIsNone(led((), address))
            self.assertIsNone(best((), address))
        self.assertEqual(by_ranks(()), ())

    def test_no_row(self):
        for address in (("a", "b", "c"), ("7", "shop", "shop"), ("a",) * 8):
            self.tells(SHOP, address, [])
            self.assertIsNone(first(SHOP, address))
            self.assertIsNone(led(SHOP, address))

    def test_one_row(self):
        self.tells(SHOP, (), ["home"])
        self.tells(SHOP, ("x",), ["any"])
        self.tells(SHOP, ("x", "7"), ["two"])
        self.tells(SHOP, ("shop", "7", "a"), ["all"])

    def test_several_rows_in_their_order(self):
        self.tells(SHOP, ("shop",), ["all", "any"])
        self.tells(SHOP, ("shop", "7"), ["all", "item", "two"])
        self.tells(SHOP, ("shop", "a"), ["all", "kind", "two"])
        self.tells(SHOP, ("shop", "07"), ["all", "two"])
        self.tells(SHOP[::-1], ("shop", "7"), ["two", "item", "all"])

    def test_led_with_the_values_of_its_holes(self):
        self.assertEqual(led(SHOP, ("shop", "7", "b")), ("all", [("more", ("7", "b"))]))
        self.assertEqual(led(SHOP[1:], ("shop", "7")), ("item", [("id", 7)]))
        self.assertEqual(led(SHOP[1:], ("shop", "a")), ("kind", [("k", "a")]))
        self.assertEqual(led(SHOP[1:], ("7", "shop")), ("two", [("x", "7"), ("y", "shop")]))
        self.assertEqual(led(SHOP, ("shop",)), ("all", [("more", ())]))

    def test_led_to_a_pattern_without_holes(self):
        self.assertEqual(led(SHOP, ()), ("home", []))
        self.assertEqual(led((("a", (("word", "x"),)),), ("x",)), ("a", []))

    def test_led_is_a_tuple_with_a_list(self):
        told = led(SHOP, ("shop", "7"))
        self.assertIs(type(told), tuple)
        self.assertIs(type(told[1]), list)

    def test_at_the_bounds(self):
        self.assertTrue(is_table(FULL))
        self.tells(FULL, full_address("12345678"), ["h", "e"])
        self.tells(FULL, full_address("99999999"), ["c", "d"])
        self.tells(FULL, full_address("-0000001"), ["b"])
        self.tells(FULL, full_address("00000001"), [])
        self.tells(FULL, full_address("99999999") + ("x", "y"), ["c", "d"])
        self.tells(FULL, full_address("-0000001") + ("x",), [])
        self.assertEqual(led(FULL[1:], full_address("12345678")),
                         ("e", [("aaaa", "99999999"), ("bbbb", 0), ("cccc", "x"), ("dddd", "y"), ("eeee", 12345678)]))

    def test_a_plain_look(self):
        for table in small_tables(60, 31):
            for address in ADDRESSES:
                labels = [label for label, pattern in table if does_match(pattern, address)]
                self.assertEqual(all_rows(table, address), labels)
                self.assertEqual(first(table, address), labels[0] if labels else None)
                wanted = (labels[0], matched(dict(table)[labels[0]], address)) if labels else None
                self.assertEqual(led(table, address), wanted)


class PatternsOfLabels(unittest.TestCase):
    def test_of_each_label(self):
        for table in (SHOP, FULL, SHOP[::-1]):
            for label, pattern in table:
                self.assertEqual(pattern_of(table, label), pattern)

    def test_of_a_label_of_none(self):
        for table, label in (((), "a"), (SHOP, "shop"), (SHOP, "al"), (SHOP, "alls"), (SHOP, "x"), (FULL, "z")):
            for taken in (NoRow, RouteError, ValueError):
                with self.subTest(label=label), self.assertRaises(taken):
                    pattern_of(table, label)

    def test_it_is_no_other_refusal(self):
        with self.assertRaises(NoRow) as caught:
            pattern_of(SHOP, "none")
        self.assertIs(type(caught.exception), NoRow)
        for name in ("BadValues", "Taken", "TooMany", "BadLead", "NoText", "NoHole", "NoSite", "NoBack"):
            self.assertNotIsInstance(caught.exception, getattr(errors, name))


# From the most special on, each letting the word 7 by; an end is no part.
KINDS = [(), (("word", "7"),), (("one", "n", ("7", "8")),), (("number", "n"),), (("any", "n"),), (("rest", "n"),)]
AHEAD = [(), (("word", "a"),), (("any", "p"),), (("number", "p"), ("one", "q", ("a", "b")), ("word", "a"))]


def address_for(ahead, *behind):
    return tuple({"word": "a", "one": "a", "any": "a", "number": "3"}[part[0]] for part in ahead) + behind


class Ranks(unittest.TestCase):
    def ranks(self, special, plain):
        """Whichever stands ahead, the special one comes first."""
        for rows in ((("s", special), ("p", plain)), (("p", plain), ("s", special))):
            with self.subTest(rows=rows):
                self.assertEqual(by_ranks(rows), (("s", special), ("p", plain)))

    def is_best(self, special, plain, address):
        for rows in ((("s", special), ("p", plain)), (("p", plain), ("s", special))):
            with self.subTest(rows=rows, address=address):
                self.assertEqual(sorted(all_rows(rows, address)), ["p", "s"])
                self.assertEqual(best(rows, address), "s")

    def are_like(self, one, other, address):
        for rows in ((("s", one), ("p", other)), (("p", other), ("s", one))):
            with self.subTest(rows=rows):
                self.assertEqual(by_ranks(rows), rows)
                self.assertEqual(best(rows, address), rows[0][0])

    def test_each_two_kinds_at_the_first_place_and_at_later_ones(self):
        for ahead in AHEAD:
            for at, special in enumerate(KINDS):
                for plain in KINDS[at + 1:]:
                    self.ranks(ahead + special, ahead + plain)

    def test_best_of_each_two_kinds_that_both_match(self):
        for ahead in AHEAD:
            for at, special in enumerate(KINDS[1:], start=1):
                for plain in KINDS[at + 1:]:
                    self.is_best(ahead + special, ahead + plain, address_for(ahead, "7"))
            self.is_best(ahead, ahead + (("rest", "n"),), address_for(ahead))

    def test_the_first_unlike_place_tells_whatever_comes_behind(self):
        self.is_best((("word", "a"), ("any", "n")), (("any", "n"), ("word", "b")), ("a", "b"))
        self.is_best((("one", "n", ("a", "b")), ("rest", "r")), (("any", "n"), ("word", "b")), ("a", "b"))
        self.is_best((("number", "n"), ("rest", "r")), (("any", "n"),), ("7",))
        self.is_best((("word", "a"), ("rest", "r")), (("any", "n"),), ("a",))
        self.is_best((("any", "n"), ("any", "m"), ("word", "c")), (("any", "n"), ("any", "m"), ("rest", "r")),
                     ("a", "b", "c"))

    def test_a_longer_pattern_is_less_special_than_its_beginning_but_more_than_a_rest(self):
        self.ranks((("any", "n"),), (("any", "n"), ("word", "a")))
        self.ranks((("any", "n"), ("any", "m")), (("any", "n"), ("rest", "r")))
        self.ranks((), (("word", "a"),))
        self.ranks((), (("rest", "r"),))

    def test_like_ones(self):
        self.are_like((("one", "n", ("a",)),), (("one", "m", ("a", "b")),), ("a",))
        self.are_like((("any", "n"), ("word", "a")), (("any", "m"), ("word", "a")), ("x", "a"))
        self.are_like((("number", "n"), ("rest", "r")), (("number", "m"), ("rest", "s")), ("7", "x"))
        self.are_like((), (), ())

    def test_words_that_are_unlike_are_of_one_kind(self):
        rows = (("b", (("word", "b"), ("any", "n"))), ("a", (("word", "a"), ("word", "a"))), ("c", (("word", "c"),)),
                ("d", (("word", "a"), ("any", "m"))))
        self.assertEqual([row[0] for row in by_ranks(rows)], ["c", "a", "b", "d"])

    def test_several_rows(self):
        self.assertEqual([row[0] for row in by_ranks(SHOP)], ["home", "kind", "item", "all", "any", "two"])
        self.assertEqual([row[0] for row in by_ranks(SHOP[::-1])], ["home", "kind", "item", "all", "any", "two"])

    def test_several_rows_with_like_ones_in_their_order(self):
        rows = (("h", (("any", "n"),)), ("g", (("word", "a"),)), ("f", (("any", "m"),)), ("e", (("rest", "r"),)),
                ("d", (("word", "b"),)), ("c", (("any", "k"),)), ("b", ()), ("a", (("word", "a"),)))
        self.assertEqual([row[0] for row in by_ranks(rows)], ["b", "g", "d", "a", "h", "f", "c", "e"])
        self.assertEqual(best(rows, ("a",)), "g")
        self.assertEqual(best(rows, ("b",)), "d")
        self.assertEqual(best(rows, ("c",)), "h")
        self.assertEqual(best(rows, ("c", "c")), "e")

    def test_best_of_an_address_that_none_matches(self):
        self.assertIsNone(best(SHOP, ("a", "b", "c")))
        self.assertIsNone(best((("a", ()),), ("a",)))

    def test_it_is_a_table(self):
        self.assertIs(type(by_ranks(SHOP)), tuple)
        self.assertTrue(is_table(by_ranks(SHOP)))

    def test_at_the_bounds(self):
        rows = by_ranks(FULL)
        self.assertEqual([row[0] for row in rows], ["e", "f", "long", "b", "h", "c", "a", "d"])
        self.assertEqual(best(FULL, full_address("12345678")), "e")
        self.assertEqual(best(FULL, full_address("99999999")), "c")
        self.assertEqual(best(FULL, full_address("12345678") + ("x", "y")), "h")

    def test_the_first_row_by_ranks_that_matches_is_the_best(self):
        tables = list(small_tables(90, 32)) + [SHOP, SHOP[::-1]]
        for table in tables:
            ranked = by_ranks(table)
            self.assertEqual(sorted(ranked), sorted(table))
            for address in ADDRESSES:
                self.assertEqual(best(table, address), first(ranked, address))

    def test_a_plain_look(self):
        def is_more_special(one, other):
            kinds = ["end", "word", "one", "number", "any", "rest"]
            for at in range(9):
                mine = one[at][0] if at < len(one) else "end"
                its = other[at][0] if at < len(other) else "end"
                if mine != its:
                    return kinds.index(mine) < kinds.index(its)
                if mine in ("end", "rest"):
                    return False

        chance = random.Random(33)
        for table in list(small_tables(90, 34)) + [great_table(chance) for _ in range(30)]:
            ranked = by_ranks(table)
            for at, row in enumerate(ranked):
                for other in ranked[at + 1:]:
                    self.assertFalse(is_more_special(other[1], row[1]))
                    if not is_more_special(row[1], other[1]):
                        self.assertLess(table.index(row), table.index(other))
            for address in ADDRESSES:
                rows = [row for row in table if does_match(row[1], address)]
                tops = [row[0] for row in rows if not any(is_more_special(other[1], row[1]) for other in rows)]
                self.assertEqual(best(table, address), tops[0] if tops else None)


class HandedInAndTold(unittest.TestCase):
    def test_what_is_handed_in_is_not_changed(self):
        for table in (SHOP, FULL, ()):
            before = copy.deepcopy(table)
            for ask in (all_rows, first, led, best):
                ask(table, ("shop", "7"))
            by_ranks(table)
            for label in ("item", "h", "none"):
                try:
                    pattern_of(table, label)
                except NoRow:
                    pass
            self.assertEqual(table, before)

    def test_a_told_list_is_its_getters_own(self):
        address = ("shop", "7")
        all_rows(SHOP, address).append("more")
        all_rows(SHOP, address).clear()
        self.assertEqual(all_rows(SHOP, address), ["all", "item", "two"])
        led(SHOP, address)[1].clear()
        led(SHOP, ())[1].append(("n", "a"))
        self.assertEqual(led(SHOP, address), ("all", [("more", ("7",))]))
        self.assertEqual(led(SHOP, ()), ("home", []))

    def test_told_lists_are_new_ones(self):
        self.assertIsNot(all_rows(SHOP, ()), all_rows(SHOP, ()))
        self.assertIsNot(led(SHOP, ())[1], led(SHOP, ())[1])

    def test_asked_again_the_same_is_told(self):
        for ask in (all_rows, first, led, best):
            for address in ((), ("shop", "7"), ("a", "b", "c")):
                self.assertEqual(ask(SHOP, address), ask(SHOP, address))
        self.assertEqual(by_ranks(SHOP), by_ranks(SHOP))

    def test_somewhat_beyond_the_bounds_nothing_is_refused(self):
        rows = tuple((label, (("word", "ninesigns"),) * 7) for label in "abcdefghi")
        rows += (("labels", (("rest", "names"),)),)
        self.assertEqual(all_rows(rows, ("ninesigns",) * 7), list("abcdefghi") + ["labels"])
        self.assertEqual(first(rows, ("a",) * 9), "labels")
        self.assertEqual(led(rows, ("a",) * 9), ("labels", [("names", ("a",) * 9)]))
        self.assertEqual(best(rows, ("ninesigns",) * 7), "a")
        self.assertEqual(by_ranks(rows[::-1])[-1], rows[-1])
        self.assertEqual(pattern_of(rows, "labels"), (("rest", "names"),))


if __name__ == "__main__":
    unittest.main()
