"""[4.3], [4.4], [4.5], [0.2] (c) and (d), and [0.3]: rows that are reached, and tables held against one another."""

import copy
import itertools
import random
import unittest

from looking import (ADDRESSES, LABELS, LONG_NAMES, LONG_WORDS, does, great_table, hold, leads, look, look_far,
                     small_tables)
from routeboard.comparing import (are_alike, can_swap, clashes, parting, reaching, swapped, unmatched, unreached,
                                  without_unreached)
from routeboard.errors import NoRow, RouteError
from routeboard.matching import does_match
from routeboard.patterns import is_address, is_table
from routeboard.tables import first

REST = (("rest", "r"),)
ANY = (("any", "n"),)
WIDE = tuple(("one", name, tuple(sorted(LONG_WORDS[:4]))) for name in LONG_NAMES)


def corner(word, *last):
    return (("word", word),) + WIDE[1:5] + (("one", "ffff", tuple(sorted(last))),)


# The eighth row is hidden by the seven ahead of it together, and by no six of them.
W, X, Y, Z = LONG_WORDS[:4]
HIDING = (
    ("h", WIDE[:5] + (("word", W),)),
    ("c", WIDE[:5] + (("word", Y),)),
    ("a", corner(X, W, X)),
    ("f", corner(Y, X, Y)),
    ("long", WIDE[:5] + (("word", Z),)),
    ("b", corner(W, X, Z)),
    ("e", corner(Z, X)),
    ("d", WIDE),
)


def table_of(*patterns):
    return tuple(zip("abcdefgh", patterns))


def words(*some):
    return tuple(("word", word) for word in some)


class Tables(unittest.TestCase):
    def reaches(self, table, label, many):
        with self.subTest(table=table, label=label):
            told = reaching(table, label)
            self.assertIs(type(told), tuple)
            self.assertTrue(is_address(told))
            self.assertEqual(first(table, told), label)
            self.assertEqual(len(told), many)
            self.assertNotIn(label, unreached(table))

    def hides(self, table, *labels):
        with self.subTest(table=table):
            self.assertEqual(unreached(table), list(labels))
            self.assertIs(type(unreached(table)), list)
            for label in labels:
                self.assertIsNone(reaching(table, label))
            self.assertEqual(without_unreached(table), tuple(row for row in table if row[0] not in labels))

    def leaves(self, table, many):
        with self.subTest(table=table):
            told = unmatched(table)
            self.assertIs(type(told), tuple)
            self.assertTrue(is_address(told))
            self.assertIsNone(first(table, told))
            self.assertEqual(len(told), many)

    def part(self, one, other, many):
        for pair in ((one, other), (other, one)):
            with self.subTest(pair=pair):
                told = parting(*pair)
                self.assertIs(type(told), tuple)
                self.assertTrue(is_address(told))
                self.assertNotEqual(first(one, told), first(other, told))
                self.assertEqual(len(told), many)
                self.assertIs(are_alike(*pair), False)

    def lead_alike(self, one, other):
        for pair in ((one, other), (other, one)):
            with self.subTest(pair=pair):
                self.assertIsNone(parting(*pair))
                self.assertIs(are_alike(*pair), True)


class Reached(Tables):
    def test_rows_that_are_reached(self):
        table = table_of(words("shop"), (("word", "shop"), ("number", "n")), (("word", "shop"),) + REST, REST)
        self.reaches(table, "a", 1)
        self.reaches(table, "b", 2)
        self.reaches(table, "c", 2)
        self.reaches(table, "d", 0)
        self.hides(table)

    def test_a_row_that_is_reached_only_by_longer_addresses(self):
        self.reaches(table_of((), ANY, REST), "c", 2)
        self.reaches(table_of(ANY, (("any", "n"), ("any", "m")), (("any", "n"),) + REST), "c", 3)
        self.reaches(table_of((("word", "a"),) + REST, REST, ANY), "b", 0)

    def test_a_row_hidden_by_one_row(self):
        self.hides(table_of(REST, words("a")), "b")
        self.hides(table_of(ANY, (("number", "n"),), words("a", "b"), words("a")), "b", "d")
        self.hides(table_of((("number", "n"),), (("one", "n", ("0", "7")),)), "b")
        self.hides(table_of((), ()), "b")
        self.hides(table_of(words("a"), ANY, words("a"), words("b")), "c", "d")

    def test_a_row_ahead_is_not_hidden_by_one_behind(self):
        self.hides(table_of(words("a"), ANY, REST))

    def test_a_row_hidden_by_several_together(self):
        self.hides(table_of(words("a"), words("b"), (("one", "n", ("a", "b")),)), "c")
        self.hides(table_of((), (("any", "n"),) + REST, REST), "c")
        self.hides(table_of(words("a"), (("number", "n"),), (("one", "n", ("0", "7", "a")),), ANY), "c")

    def test_a_row_hidden_by_hidden_ones_and_others(self):
        self.hides(table_of(ANY, words("a"), words("a")), "b", "c")

    def test_a_row_that_several_leave_something(self):
        self.reaches(table_of(words("a"), words("c"), (("one", "n", ("a", "b", "c")),)), "c", 1)
        self.assertEqual(reaching(table_of(words("a"), words("c"), (("one", "n", ("a", "b", "c")),)), "c"), ("b",))

    def test_a_table_without_rows(self):
        self.hides(())

    def test_a_label_of_none(self):
        for table, label in (((), "a"), (table_of(ANY), "b"), (HIDING, "g"), (HIDING, "n"), (table_of(REST), "r")):
            for taken in (NoRow, RouteError, ValueError):
                with self.subTest(label=label), self.assertRaises(taken):
                    reaching(table, label)
            with self.assertRaises(NoRow) as caught:
                reaching(table, label)
            self.assertIs(type(caught.exception), NoRow)

    def test_at_the_bounds(self):
        self.assertTrue(is_table(HIDING))
        self.hides(HIDING, "d")
        for at, row in enumerate(HIDING[:7]):
            self.reaches(HIDING, row[0], 6)
            self.reaches(HIDING[:at] + HIDING[at + 1:], "d", 6)
        self.hides(HIDING[7:] + HIDING[:7], *[row[0] for row in HIDING[:7]])
        ends = [tuple(("any", name) for name in LONG_NAMES[:many]) for many in range(7)]
        self.reaches(table_of(*ends, REST), "h", 7)


class WithoutUnreached(Tables):
    def test_it_leads_as_the_table_does(self):
        for table in list(small_tables(150, 51)) + [HIDING]:
            short = without_unreached(table)
            self.assertTrue(is_table(short))
            self.assertEqual(unreached(short), [])
            self.assertIs(are_alike(table, short), True)
            for address in ADDRESSES:
                self.assertEqual(first(short, address), first(table, address))

    def test_a_table_all_of_whose_rows_are_reached_stays(self):
        table = table_of(words("a"), ANY, REST)
        self.assertEqual(without_unreached(table), table)
        self.assertEqual(without_unreached(()), ())

    def test_it_is_a_tuple_in_the_order_of_the_rows(self):
        table = table_of(ANY, words("a"), (), words("b"), REST)
        self.assertEqual(without_unreached(table), (table[0], table[2], table[4]))
        self.assertIs(type(without_unreached(table)), tuple)


class Unmatched(Tables):
    def test_a_table_without_rows(self):
        self.assertEqual(unmatched(()), ())

    def test_a_table_that_matches_all(self):
        for table in (table_of(REST), table_of((), (("any", "n"),) + REST), table_of(words("a"), REST, ANY),
                      table_of((), ANY, (("any", "n"), ("any", "m")) + REST)):
            self.assertIsNone(unmatched(table))

    def test_a_table_that_leaves_something(self):
        self.leaves(table_of(ANY), 0)
        self.leaves(table_of(()), 1)
        self.leaves(table_of((), (("number", "n"),), words("x0"), words("x1")), 1)
        self.leaves(table_of((), ANY), 2)
        self.leaves(table_of((), ANY, (("any", "n"), ("any", "m"), ("any", "o")) + REST), 2)
        self.leaves(table_of((), ANY, (("any", "n"), ("number", "m")) + REST), 2)

    def test_at_the_bounds(self):
        ends = [tuple(("any", name) for name in LONG_NAMES[:many]) for many in range(7)]
        self.leaves(table_of(*ends), 7)
        self.leaves(table_of(*ends, words(*LONG_WORDS)), 7)
        self.assertIsNone(unmatched(table_of(*ends[:6], ends[5] + REST)))
        self.assertIsNone(unmatched(table_of(*ends[:5], HIDING[0][1], HIDING[1][1], ends[5] + REST)))
        self.leaves(HIDING, 0)


class Parting(Tables):
    def test_tables_that_differ_in_order_alone(self):
        self.part(table_of(words("a"), ANY), table_of(words("a"), ANY)[::-1], 1)
        self.part(table_of(REST, ANY), table_of(REST, ANY)[::-1], 1)
        self.lead_alike(table_of(words("a"), words("b")), table_of(words("a"), words("b"))[::-1])

    def test_tables_that_lead_alike_though_they_are_unlike(self):
        self.lead_alike(table_of(ANY), table_of((("any", "m"),)))
        self.lead_alike(table_of(ANY), table_of(ANY, words("a")))
        self.lead_alike(table_of(words("a")), table_of((("one", "n", ("a",)),)))
        self.lead_alike(table_of(words("a"), ANY), (("a", words("a")), ("c", words("a")), ("b", ANY)))
        self.lead_alike(table_of((), REST), table_of((), (("any", "n"),) + REST))
        self.lead_alike(table_of(words("a"), (("one", "n", ("a", "b")),)), table_of(words("a"), words("b")))

    def test_tables_that_lead_to_unlike_labels(self):
        self.part((("a", ANY),), (("b", ANY),), 1)
        self.part((("a", REST),), (("b", REST),), 0)
        self.part((("a", ()), ("b", REST)), (("a", ()), ("c", REST)), 1)
        self.part((("a", words("x")), ("b", words("y"))), (("b", words("x")), ("a", words("y"))), 1)

    def test_tables_that_lead_to_a_label_in_one_alone(self):
        self.part((), (("a", words("x", "y")),), 2)
        self.part(table_of(words("a")), table_of(words("a"), words("b", "c")), 2)
        self.part(table_of(ANY), table_of((("number", "n"),)), 1)
        self.part(table_of(()), (), 0)

    def test_the_shortest_of_several(self):
        self.part((("a", words("x", "y", "z")), ("b", words("x")), ("c", words("x", "y"))), (), 1)
        self.part((("a", REST),), (("b", words("x", "y")), ("a", REST)), 2)
        self.part((("a", words("x", "y")), ("c", REST)), (("b", words("x")), ("c", REST)), 1)

    def test_tables_that_are_the_same(self):
        for table in ((), table_of(()), table_of(words("a"), ANY, REST), HIDING):
            self.lead_alike(table, table)

    def test_at_the_bounds(self):
        self.lead_alike(HIDING, HIDING[:7])
        self.lead_alike(HIDING, (HIDING[1], HIDING[0], HIDING[3], HIDING[2]) + HIDING[4:])
        self.lead_alike(HIDING[:7], HIDING[:6] + (("e", WIDE),))
        self.part(HIDING, HIDING[:6] + HIDING[7:], 6)
        self.part(HIDING, HIDING[:5] + (("g", HIDING[5][1]),) + HIDING[6:], 6)
        self.part(HIDING, HIDING[::-1], 6)
        ends = [tuple(("any", name) for name in LONG_NAMES[:many]) for many in range(7)]
        self.part(table_of(*ends, REST), table_of(*ends), 7)
        self.lead_alike(table_of(*ends[:6], ends[5] + REST), table_of(*ends[:6], REST))


class Swapped(Tables):
    def test_at_each_place(self):
        table = table_of(words("a"), ANY, REST, ())
        a, b, c, d = table
        self.assertEqual(swapped(table, 0), (b, a, c, d))
        self.assertEqual(swapped(table, 1), (a, c, b, d))
        self.assertEqual(swapped(table, 2), (a, b, d, c))

    def test_twice_it_is_the_table(self):
        for table in list(small_tables(40, 52)) + [HIDING]:
            for at in range(len(table) - 1):
                other = swapped(table, at)
                self.assertTrue(is_table(other))
                self.assertNotEqual(other, table)
                self.assertEqual((other[at], other[at + 1]), (table[at + 1], table[at]))
                self.assertEqual(swapped(other, at), table)

    def swaps(self, table, at, can):
        with self.subTest(table=table, at=at):
            self.assertIs(can_swap(table, at), can)
            self.assertIs(are_alike(table, swapped(table, at)), can)

    def test_neighbours_that_clash(self):
        self.swaps(table_of(words("a"), ANY), 0, False)
        self.swaps(table_of(ANY, words("a")), 0, False)
        self.swaps(table_of(REST, REST), 0, False)
        self.swaps(table_of((), (("number", "n"),), (("one", "n", ("7", "a")),)), 1, False)

    def test_neighbours_that_do_not(self):
        self.swaps(table_of(words("a"), words("b")), 0, True)
        self.swaps(table_of(ANY, (("any", "n"), ("any", "m")), REST), 0, True)
        self.swaps(table_of(REST, (), (("any", "n"),) + REST), 1, True)

    def test_neighbours_that_clash_where_rows_ahead_take_what_both_match(self):
        self.swaps(table_of(words("a"), (("one", "n", ("a", "b")),), (("one", "n", ("a", "c")),)), 1, True)
        self.swaps(table_of(REST, ANY, words("a")), 1, True)
        self.swaps(table_of(words("a"), words("b"), (("one", "n", ("a", "b", "c")),), (("one", "n", ("a", "b")),)), 2,
                   True)
        self.swaps(table_of(words("a"), (("one", "n", ("a", "b", "c")),), (("one", "n", ("a", "b")),)), 1, False)

    def test_rows_behind_do_not_matter(self):
        self.swaps(table_of(words("a"), ANY, REST), 0, False)
        self.swaps(table_of(words("a"), words("b"), REST), 0, True)

    def test_at_the_bounds(self):
        self.assertEqual([can_swap(HIDING, at) for at in range(7)], [True, True, True, True, False, True, False])
        shut = HIDING[7:] + HIDING[4:6] + HIDING[:4] + HIDING[6:7]
        self.assertEqual([can_swap(shut, at) for at in range(7)], [False] + [True] * 6)
        self.assertEqual(swapped(HIDING, 6), HIDING[:6] + (HIDING[7], HIDING[6]))
        self.assertEqual(swapped(HIDING, 0), (HIDING[1], HIDING[0]) + HIDING[2:])


class Clashes(Tables):
    def test_in_the_order_of_the_rows(self):
        table = (("z", ANY), ("y", words("a")), ("x", (("number", "n"),)), ("w", REST), ("v", ()))
        self.assertEqual(clashes(table), [("z", "y"), ("z", "x"), ("z", "w"), ("y", "w"), ("x", "w"), ("w", "v")])
        self.assertEqual(clashes(table[::-1]),
                         [("v", "w"), ("w", "x"), ("w", "y"), ("w", "z"), ("x", "z"), ("y", "z")])

    def test_none(self):
        self.assertEqual(clashes(()), [])
        self.assertEqual(clashes(table_of(ANY)), [])
        self.assertEqual(clashes(table_of((), ANY, (("any", "n"), ("any", "m")))), [])

    def test_rows_that_are_not_reached_clash_too(self):
        self.assertEqual(clashes(table_of(REST, ANY, words("a"))), [("a", "b"), ("a", "c"), ("b", "c")])

    def test_a_list_of_tuples(self):
        told = clashes(table_of(ANY, REST))
        self.assertIs(type(told), list)
        self.assertIs(type(told[0]), tuple)

    def test_at_the_bounds(self):
        self.assertEqual(clashes(HIDING), [("h", "a"), ("h", "d"), ("c", "f"), ("c", "d"), ("a", "d"), ("f", "d"),
                                           ("long", "b"), ("long", "d"), ("b", "d"), ("e", "d")])


class PlainLooks(Tables):
    def test_rows_of_small_tables(self):
        hidden = 0
        for table in small_tables(450, 53):
            unseen = []
            for label, _ in table:
                def is_led(address):
                    return leads(table, address) == label

                seen = look(is_led)
                hold(self, reaching(table, label), seen, is_led)
                if seen is None:
                    unseen.append(label)
            self.assertEqual(unreached(table), unseen)
            self.assertEqual(without_unreached(table), tuple(row for row in table if row[0] not in unseen))
            hidden += len(unseen)
        self.assertGreater(hidden, 100)

    def test_unmatched_of_small_tables(self):
        for table in small_tables(450, 54):
            def is_led_nowhere(address):
                return leads(table, address) is None

            hold(self, unmatched(table), look(is_led_nowhere), is_led_nowhere)

    def test_parting_of_small_tables(self):
        chance = random.Random(55)
        alike = 0
        for table, other in zip(small_tables(450, 56), small_tables(450, 57)):
            if chance.randrange(4):
                # Unlike tables seldom lead alike, so some are made of one another.
                rows = list(table)
                chance.shuffle(rows)
                other = tuple(rows[:8 - chance.randrange(3)])

            def is_parting(address):
                return leads(table, address) != leads(other, address)

            seen = look(is_parting)
            hold(self, parting(table, other), seen, is_parting)
            self.assertIs(are_alike(table, other), seen is None)
            alike += seen is None
        self.assertGreater(alike, 50)

    def test_neighbours_and_clashes_of_small_tables(self):
        swaps = []
        for table in small_tables(270, 58):
            for at in range(len(table) - 1):
                other = swapped(table, at)
                can = all(leads(table, address) == leads(other, address) for address in ADDRESSES)
                self.assertIs(can_swap(table, at), can)
                swaps.append(can)
            self.assertEqual(clashes(table), [
                (one[0], other[0]) for one, other in itertools.combinations(table, 2)
                if any(does(one[1], address) and does(other[1], address) for address in ADDRESSES)])
        self.assertGreater(min(swaps.count(True), swaps.count(False)), 100)

    def test_tables_at_the_bounds(self):
        chance = random.Random(59)
        for _ in range(12):
            table = great_table(chance)
            self.assertTrue(is_table(table))
            patterns = [row[1] for row in table]
            for label in LABELS:
                def is_led(address):
                    return first(table, address) == label

                hold(self, reaching(table, label), look_far(patterns, is_led), is_led)

            def is_led_nowhere(address):
                return first(table, address) is None

            hold(self, unmatched(table), look_far(patterns, is_led_nowhere), is_led_nowhere)
            for at in range(7):
                def is_parting(address):
                    return first(table, address) != first(swapped(table, at), address)

                hold(self, parting(table, swapped(table, at)), look_far(patterns, is_parting), is_parting)
                self.assertIs(can_swap(table, at), look_far(patterns, is_parting) is None)
            self.assertEqual(clashes(table), [
                (one[0], other[0]) for one, other in itertools.combinations(table, 2)
                if look_far([one[1], other[1]], lambda address: all(
                    does_match(row[1], address) for row in (one, other))) is not None])


class HandedInAndTold(unittest.TestCase):
    def asked(self, table):
        for ask in (unreached, without_unreached, unmatched, clashes):
            yield ask(table)
        for at in range(len(table) - 1):
            yield swapped(table, at)
            yield can_swap(table, at)
        for label, _ in table:
            yield reaching(table, label)
        yield parting(table, table[::-1])
        yield are_alike(table, table[::-1])

    def test_what_is_handed_in_is_not_changed(self):
        for table in list(small_tables(18, 60)) + [HIDING]:
            before = copy.deepcopy(table)
            for _ in self.asked(table):
                self.assertEqual(table, before)

    def test_asked_again_the_same_is_told(self):
        for table in list(small_tables(18, 61)) + [HIDING]:
            self.assertEqual(list(self.asked(table)), list(self.asked(table)))

    def test_a_told_list_is_its_getters_own(self):
        table = table_of(REST, ANY)
        for ask, told in ((unreached, ["b"]), (clashes, [("a", "b")])):
            ask(table).append("more")
            ask(table).clear()
            self.assertEqual(ask(table), told)
            self.assertIsNot(ask(table), ask(table))
            self.assertEqual(ask(()), [])
            ask(()).append("more")
            self.assertEqual(ask(()), [])

    def test_somewhat_beyond_the_bounds_nothing_is_refused(self):
        table = tuple(("label" + letter, (("word", "ninesigns"),) * 7 + words(letter)) for letter in "abcdefghi")
        table += (("last", (("any", "n"),) * 8),)
        self.assertEqual(reaching(table, "labeli"), ("ninesigns",) * 7 + ("i",))
        self.assertEqual(unreached(table), [])
        self.assertEqual(without_unreached(table), table)
        self.assertEqual(unmatched(table), ())
        self.assertIs(are_alike(table, table), True)
        self.assertEqual(len(parting(table, table[:-1])), 8)
        self.assertIs(can_swap(table, 7), True)
        self.assertIs(can_swap(table, 8), False)
        self.assertEqual(swapped(table, 8)[8:], table[:7:-1])
        self.assertEqual(clashes(table), [(label, "last") for label, _ in table[:-1]])


if __name__ == "__main__":
    unittest.main()
