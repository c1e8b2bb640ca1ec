"""[12.1], [0.2] (h) and [0.3]: texts of sites, and sites read from them."""

import copy
import itertools
import random
import unittest

from looking import (ADDRESSES, ODD_THINGS, SIGNS, changes, great_table, is_site_writing, nested, refuses, site_of,
                     small_tables, tables_of)
from routeboard.errors import NoBack, NoText
from routeboard.sites import Site, read_site, site_text
from routeboard.texts import written_table

SHOP = (("item", (("word", "shop"), ("number", "id"))), ("all", (("rest", "r"),)))
HOME = (("home", ()),)
TABLES = {"a": SHOP, "ab": (), "c": HOME}
TEXT = "[a]\nitem /shop/#id\nall /*r\n[ab]\n[c]\nhome /\n"

# Parts of the text that each belong together.
BLOCKS = ("[a]\nitem /shop/#id\nall /*r\n", "[ab]\n", "[c]\nhome /\n")


class Writing(unittest.TestCase):
    def test_the_site_without_tables(self):
        self.assertEqual(site_text(Site()), "")
        self.assertEqual(read_site("").names(), [])

    def test_a_table_without_rows(self):
        self.assertEqual(site_text(site_of(ab=())), "[ab]\n")
        self.assertEqual(tables_of(read_site("[ab]\n")), {"ab": ()})
        self.assertEqual(site_text(site_of(a=(), b=())), "[a]\n[b]\n")
        self.assertEqual(tables_of(read_site("[a]\n[b]\n")), {"a": (), "b": ()})

    def test_several_tables_in_the_order_of_their_names(self):
        for names in itertools.permutations(TABLES):
            self.assertEqual(site_text(site_of(**{name: TABLES[name] for name in names})), TEXT)
        self.assertEqual(tables_of(read_site(TEXT)), TABLES)

    def test_names_and_rows_that_are_called_alike(self):
        site = site_of(a=(("a", (("any", "a"),)),), aa=(("aa", (("word", "a"),)),))
        text = "[a]\na /:a\n[aa]\naa /a\n"
        self.assertEqual(site_text(site), text)
        self.assertEqual(tables_of(read_site(text)), tables_of(site))

    def test_behind_steps(self):
        site = site_of(c=HOME, a=SHOP)
        site.put("ab", SHOP)
        site.take("ab")
        site.put("ab", ())
        self.assertEqual(site_text(site), TEXT)
        site.back()
        self.assertEqual(site_text(site), BLOCKS[0] + BLOCKS[2])
        site.back()
        self.assertEqual(site_text(site), TEXT.replace("[ab]\n", "[ab]\n" + written_table(SHOP)))
        self.assertEqual(site_text(site.twin()), site_text(site))

    def test_sites_at_random(self):
        chance = random.Random(121)
        choices = list(small_tables(40, 122)) + [great_table(chance) for _ in range(5)]
        for _ in range(60):
            names = chance.sample(["a", "b", "ab", "aa", "zzzz", "home", "z"], chance.randrange(8))
            tables = {name: chance.choice(choices) for name in names}
            text = site_text(site_of(**tables))
            self.assertTrue(is_site_writing(text))
            told = read_site(text)
            self.assertEqual(tables_of(told), tables)
            self.assertEqual(site_text(told), text)
            self.assertEqual(text, "".join(f"[{name}]\n" + written_table(tables[name]) for name in sorted(names)))


class Reading(unittest.TestCase):
    def none(self, *texts):
        for text in texts:
            with self.subTest(text=text):
                self.assertFalse(is_site_writing(text))
                refuses(self, NoText, read_site, text)

    def either(self, text):
        if is_site_writing(text):
            self.assertEqual(site_text(read_site(text)), text)
        else:
            refuses(self, NoText, read_site, text)

    def test_a_new_site_without_steps(self):
        for text in ("", "[a]\n", TEXT):
            site = read_site(text)
            self.assertIsInstance(site, Site)
            self.assertEqual(site.counts(), (0, 0))
            refuses(self, NoBack, site.back)
            refuses(self, NoBack, site.forth)
            self.assertIsNot(read_site(text), read_site(text))

    def test_on_from_there(self):
        site = read_site(TEXT)
        self.assertEqual(site.lead(("shop", "7")), [("a", "item")])
        self.assertEqual(site.lead(()), [("a", "all"), ("c", "home")])
        self.assertEqual(site.mount("c", (("word", "x"),), "a")[1][0], "item")
        self.assertIs(site.put("ab", HOME), True)
        self.assertEqual(site.take("a"), SHOP)
        self.assertEqual(site.counts(), (3, 0))
        self.assertEqual([site.back(), site.back(), site.back()], ["take", "put", "mount"])
        refuses(self, NoBack, site.back)
        self.assertEqual(site_text(site), TEXT)
        self.assertEqual(tables_of(read_site(TEXT)), TABLES)

    def test_it_leads_as_the_site_did(self):
        site = site_of(b=list(small_tables(9, 123))[8], **TABLES)
        told = read_site(site_text(site))
        for address in ADDRESSES:
            self.assertEqual(told.lead(address), site.lead(address))

    def test_any_thing_that_is_no_text(self):
        things = [(), [], 10 ** 50, -1, [""], ("",), [TEXT], (TEXT,), ["[a]\n"], nested(TEXT, 10, True),
                  nested("", 10, False)]
        for thing in things + [thing for thing in ODD_THINGS if not isinstance(thing, str)]:
            with self.subTest(thing=thing):
                refuses(self, NoText, read_site, thing)

    def test_texts_that_are_none(self):
        for thing in ODD_THINGS:
            if isinstance(thing, str) and thing != "":
                self.none(thing)
        self.none(" ", "\n", "\n\n", "a", "/", "a /\n", "[a]", "[a]\nhome /", TEXT[:-1], "\u00e4",
                  "[\u00e4]\n", "[a]\r\n")

    def test_lines_with_names_that_are_none(self):
        for line in ("[]", "[A]", "[names]", "[a1]", "[-]", "[ a]", "[a ]", "[a b]", "[a", "a]", "[[a]", "[a]]",
                     "[[a]]", "[a] ", " [a]", "(a)", "[a][b]", "[ab", "[a]x", "[a] home /", "[", "]"):
            self.none(line + "\n", line + "\nhome /\n", "[a]\n" + line + "\n")

    def test_a_row_ahead_of_all_names(self):
        self.none("home /\n", "home /\n[a]\n", "home /\n" + TEXT, "\n[a]\n")

    def test_an_empty_line(self):
        self.none("[a]\n\n", "\n" + TEXT, TEXT + "\n", TEXT.replace("[ab]", "\n[ab]"),
                  TEXT.replace("[ab]\n", "[ab]\n\n"))

    def test_names_that_do_not_rise(self):
        for order in itertools.permutations(BLOCKS):
            if order != BLOCKS:
                self.none("".join(order))
        self.none("[b]\n[a]\n", "[ab]\n[a]\n", "[b]\n[ab]\n")

    def test_a_name_twice(self):
        self.none("[a]\n[a]\n", "[a]\nhome /\n[a]\n", "[a]\n[a]\nhome /\n", "[a]\nhome /\n[a]\nhome /\n",
                  "[a]\n[b]\n[a]\n", "[a]\nhome /\n[a]\nall /*r\n", TEXT + TEXT)

    def test_a_table_that_is_none(self):
        for rows in ("home\n", "home /a/\n", "home  /\n", "home /:n/:n\n", "a /\na /\n", "A /\n", "home / \n",
                     " home /\n", "".join(f"{label} /\n" for label in "abcdefghi"), "labels /\n",
                     "home /" + "/a" * 7 + "\n"):
            self.none("[a]\n" + rows, "[a]\n[b]\n" + rows, "[a]\n" + rows + "[b]\n")

    def test_lines_left_out_twice_and_exchanged(self):
        lines = TEXT.splitlines(keepends=True)
        for at, other in itertools.product(range(len(lines)), repeat=2):
            self.either("".join(lines[:at] + lines[at + 1:]))
            self.either("".join(lines[:at] + [lines[other]] + lines[at:]))
            exchanged = list(lines)
            exchanged[at], exchanged[other] = lines[other], lines[at]
            self.either("".join(exchanged))
        for many in range(4):
            for some in itertools.product(lines, repeat=many):
                self.either("".join(some))

    def test_a_line_left_out(self):
        self.assertEqual(tables_of(read_site(TEXT.replace("item /shop/#id\n", ""))), {**TABLES, "a": SHOP[1:]})
        self.assertEqual(tables_of(read_site(TEXT.replace("[ab]\n", ""))), {"a": SHOP, "c": HOME})
        self.assertEqual(tables_of(read_site(TEXT.replace("[c]\n", ""))), {"a": SHOP, "ab": HOME})

    def test_all_small_changes_of_right_texts(self):
        for text in ("", "[a]\n", "[a]\nb /\n", "[a]\n[b]\nc /:n\n", TEXT):
            for changed in changes(text, SIGNS if len(text) < 20 else "an/:[] \n"):
                self.either(changed)

    def test_all_short_texts(self):
        for many in range(7):
            for signs in itertools.product("[]a\n", repeat=many):
                self.either("".join(signs))

    def test_tables_beyond_the_bounds_are_written_but_not_read(self):
        site = site_of(a=(("labels", ()),))
        self.assertEqual(site_text(site), "[a]\nlabels /\n")
        self.none(site_text(site))


class HandedInAndTold(unittest.TestCase):
    def test_what_is_handed_in_is_not_changed(self):
        site = site_of(**TABLES)
        site.back()
        before = (tables_of(site), site.counts())
        site_text(site)
        self.assertEqual((tables_of(site), site.counts()), before)
        for thing in [[TEXT], [["a"]], ([],)]:
            kept = copy.deepcopy(thing)
            refuses(self, NoText, read_site, thing)
            self.assertEqual(thing, kept)

    def test_asked_again_the_same_is_told(self):
        site = site_of(**TABLES)
        for _ in range(3):
            self.assertEqual(site_text(site), TEXT)
            self.assertEqual(tables_of(read_site(TEXT)), TABLES)
            refuses(self, NoText, read_site, TEXT + "\n")

    def test_two_sites_read_from_one_text_go_by_themselves(self):
        one, other = read_site(TEXT), read_site(TEXT)
        one.take("a")
        self.assertEqual(tables_of(other), TABLES)


if __name__ == "__main__":
    unittest.main()
