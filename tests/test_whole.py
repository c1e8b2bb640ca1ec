"""The interface, and [0.2] and [0.3] over the whole program, where its parts meet."""

import importlib
import inspect
import itertools
import random
import unittest

from looking import ADDRESSES, LABELS, LONG_WORDS, great_pattern, great_table, leads, look_far, site_of, small_tables
from routeboard.boards import Board
from routeboard.comparing import (are_alike, can_swap, clashes, common, is_within, reaching, swapped, unmatched,
                                  unreached, without_unreached)
from routeboard.errors import RouteError
from routeboard.leading import led_on, turned
from routeboard.matching import built, does_match, matched
from routeboard.mounting import below, joined, label_by_words, mounted
from routeboard.narrowing import bounds, narrowed, renamed, widened
from routeboard.patterns import is_address, is_pattern, is_table
from routeboard.sites import read_site, site_text
from routeboard.tables import all_rows, best, by_ranks, first, led
from routeboard.tallying import crossings, tallies, tally
from routeboard.texts import address_text, read, read_address, read_table, written, written_table

# How many arguments each function takes.
FUNCTIONS = {
    "patterns": {"is_address": 1, "is_pattern": 1, "is_table": 1},
    "matching": {"matched": 2, "built": 2, "does_match": 2},
    "tables": {"all_rows": 2, "first": 2, "led": 2, "pattern_of": 2, "best": 2, "by_ranks": 1},
    "comparing": {"common": 2, "aside": 2, "how_they_lie": 2, "uncovered": 2, "reaching": 2, "unreached": 1,
                  "without_unreached": 1, "unmatched": 1, "parting": 2, "swapped": 2, "clashes": 1, "is_within": 2,
                  "are_alike": 2, "can_swap": 2},
    "mounting": {"mounted": 2, "joined": 2, "below": 2, "label_by_words": 2},
    "leading": {"are_leads": 1, "led_on": 2, "followed": 2, "labels_of": 2, "turned": 1},
    "texts": {"written": 1, "read": 1, "address_text": 1, "read_address": 1, "written_table": 1, "read_table": 1},
    "narrowing": {"kind_counts": 1, "bounds": 1, "renamed": 3, "narrowed": 3, "widened": 2},
    "tallying": {"tally": 3, "tallies": 3, "crossings": 3},
    "sites": {"site_text": 1, "read_site": 1},
}
CLASSES = {
    ("boards", "Board"): {"add": 3, "drop": 1, "move": 2, "table": 0, "find": 1, "holes": 1, "looked": 0},
    ("sites", "Site"): {"put": 2, "table_of": 1, "take": 1, "mount": 3, "lead": 1, "names": 0, "back": 0, "forth": 0,
                        "counts": 0, "twin": 0},
}


def tables(seed):
    """Small tables, and such as are as great as tables can be."""
    chance = random.Random(seed)
    return list(small_tables(40, seed)) + [great_table(chance) for _ in range(20)]


def far_addresses(chance, many):
    return [tuple(chance.choices(LONG_WORDS, k=chance.randrange(4, 9))) for _ in range(many)]


class TheInterface(unittest.TestCase):
    def takes(self, ask, many):
        self.assertEqual(len(inspect.signature(ask).parameters), many)

    def test_functions(self):
        for module, functions in FUNCTIONS.items():
            for name, many in functions.items():
                with self.subTest(module=module, name=name):
                    self.takes(getattr(importlib.import_module("routeboard." + module), name), many)

    def test_classes(self):
        for (module, name), methods in CLASSES.items():
            made = getattr(importlib.import_module("routeboard." + module), name)()
            for method, many in methods.items():
                with self.subTest(module=module, method=method):
                    self.takes(getattr(made, method), many)

    def test_the_classes_take_nothing(self):
        for module, name in CLASSES:
            self.takes(getattr(importlib.import_module("routeboard." + module), name), 0)


class TheWhole(unittest.TestCase):
    def setUp(self):
        self.chance = random.Random(131)
        self.addresses = list(ADDRESSES) + far_addresses(self.chance, 60)

    def test_a_what_is_matched_is_built_back(self):
        for table in tables(132):
            for address in self.addresses:
                told = led(table, address)
                if told is not None:
                    self.assertEqual(built(dict(table)[told[0]], told[1][::-1]), address)

    def test_b_the_most_special_row_is_the_first_by_ranks(self):
        for table in tables(133):
            for address in self.addresses:
                self.assertEqual(best(table, address), first(by_ranks(table), address))

    def test_c_what_is_told_of_two_rows(self):
        for table in tables(134):
            pairs = clashes(table)
            for one, other in itertools.combinations(table, 2):
                address = common(one[1], other[1])
                self.assertEqual(address is not None, (one[0], other[0]) in pairs)
                if address is not None:
                    rows = all_rows(table, address)
                    self.assertIn(one[0], rows)
                    self.assertIn(other[0], rows)
                    self.assertEqual(read_address(address_text(address)), address)

    def test_c_reached_rows_and_addresses_of_none(self):
        for table in tables(135):
            patterns = [row[1] for row in table]
            for label, _ in table:
                address = reaching(table, label)
                seen = look_far(patterns, lambda far: leads(table, far) == label)
                self.assertEqual(address is None, seen is None)
                self.assertEqual(label in unreached(table), seen is None)
                if address is not None:
                    self.assertEqual(label_by_words(table, address), label)
            address = unmatched(table)
            if address is not None:
                self.assertEqual(all_rows(table, address), [])

    def test_d_rows_that_are_not_reached_can_go_and_neighbours_be_exchanged(self):
        for table in tables(136):
            self.assertTrue(are_alike(table, without_unreached(table)))
            for at in range(len(table) - 1):
                self.assertIs(can_swap(table, at), are_alike(table, swapped(table, at)))

    def test_e_mounted_and_gone_below(self):
        for table in tables(137):
            small = tuple((label, pattern[:1] + pattern[-1:] * (len(pattern) > 1)) for label, pattern in table)
            self.assertTrue(is_table(small))
            told = mounted((("word", "w"), ("any", "who")), small)
            self.assertEqual(below(below(told, "w"), "x"), small)
            for address in self.addresses:
                self.assertEqual(label_by_words(told, ("w", "x") + address), first(small, address))
                self.assertEqual(label_by_words(table, address), leads(table, address))

    def test_f_a_board_finds_what_its_rows_lead_to(self):
        for table in tables(138):
            board = Board()
            for label, pattern in reversed(table):
                board.find(self.addresses[0])
                board.add(label, pattern, 0)
            for address in self.addresses:
                self.assertEqual(board.find(address), leads(table, address))
                self.assertEqual(board.holes(address), led(table, address))

    def test_g_a_lead_turned_back_leads_back(self):
        for _ in range(60):
            pattern = great_pattern(self.chance)
            ahead = list(pattern[:-1])
            self.chance.shuffle(ahead)
            lead = ("lead", pattern, tuple(ahead) + pattern[-1:])
            back = turned(lead)
            self.assertEqual(turned(back), lead)
            for address in self.addresses:
                step = led_on((lead,), address)
                self.assertEqual(step is not None, does_match(pattern, address))
                if step is not None:
                    self.assertEqual(led_on((back,), step[1]), ("lead", address))

    def test_h_texts_read_back(self):
        for table in tables(139):
            self.assertEqual(read_table(written_table(table)), table)
            for _, pattern in table:
                self.assertEqual(read(written(pattern)), pattern)
            site = site_of(b=table, a=by_ranks(table))
            told = read_site(site_text(site))
            self.assertEqual((told.table_of("a"), told.table_of("b")), (by_ranks(table), table))
        for address in self.addresses:
            self.assertEqual(read_address(address_text(address)), address)

    def test_i_narrowed_and_widened(self):
        for _ in range(40):
            pattern = great_pattern(self.chance)
            for at in range(6):
                self.assertTrue(is_within(pattern, widened(pattern, at)))
            for address in self.addresses:
                for name, value in matched(pattern, address) or []:
                    if not isinstance(value, tuple):
                        told = narrowed(pattern, name, str(value))
                        self.assertTrue(is_pattern(told))
                        self.assertTrue(does_match(told, address))
                        self.assertTrue(is_within(told, pattern))

    def test_j_all_addresses_are_led_to_a_row_or_to_none(self):
        for table in tables(140):
            for many in range(5):
                told = tallies(table, LONG_WORDS[:4], many)
                self.assertEqual(sum(count for _, count in told), 4 ** many)
                if table:
                    self.assertEqual(told[0][1], tally(table[0][1], LONG_WORDS[:4], many))
                for one, other, count in crossings(table, LONG_WORDS[:4], many):
                    self.assertIn((one, other), clashes(table))
                    self.assertLessEqual(count, tally(dict(table)[other], LONG_WORDS[:4], many))

    def test_j_a_site_leads_as_its_tables_do(self):
        some = tables(141)
        for one, other in zip(some, some[1:]):
            site = site_of(a=one, b=other)
            for address in self.addresses:
                led_to = [("a", leads(one, address)), ("b", leads(other, address))]
                self.assertEqual(site.lead(address), [pair for pair in led_to if pair[1] is not None])

    def test_bounds_hold_for_told_addresses(self):
        for _ in range(200):
            pattern = great_pattern(self.chance)
            address = common(pattern, pattern)
            self.assertTrue(is_address(address))
            self.assertEqual(len(address), bounds(pattern)[0])
            for name in [part[1] for part in pattern if part[0] != "word"]:
                self.assertTrue(is_within(pattern, renamed(pattern, name, "zzzz")))


class Refusing(unittest.TestCase):
    def test_what_is_refused_is_a_route_error_and_changes_nothing(self):
        full = tuple((label, ()) for label in LABELS)
        board = Board()
        for label, pattern in full:
            board.add(label, pattern, 8)
        site = site_of(a=full)
        for step, handed in (
                (joined, (full, full)), (mounted, ((("rest", "r"),), (("a", (("rest", "s"),)),))),
                (board.add, ("h", (), 0)), (board.add, ("new", (), 0)), (board.drop, ("new",)),
                (board.move, ("new", 0)), (site.take, ("b",)), (site.put, (None, full)),
                (site.mount, ("a", (), "a")), (site.forth, ()), (read, ("",)),
                (read_table, ("\n",)), (read_site, (None,)), (renamed, ((), "a", "b")), (narrowed, ((), "a", "b")),
                (widened, ((), 0))):
            for _ in range(2):
                with self.subTest(step=step), self.assertRaises(RouteError):
                    step(*handed)
                self.assertEqual(board.table(), full)
                self.assertEqual((site.table_of("a"), site.counts()), (full, (1, 0)))


if __name__ == "__main__":
    unittest.main()
