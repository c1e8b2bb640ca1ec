"""[11.1], [11.2], [0.2] (j) and [0.3]: sites of tables by names, which go back and forth."""

import copy
import random
import unittest

from looking import ADDRESSES, ODD_THINGS, great_table, leads, nested, refuses, site_of, small_tables, tables_of
from routeboard.errors import NoBack, NoSite, RouteError, TooMany
from routeboard.mounting import joined, mounted
from routeboard.patterns import is_name
from routeboard.sites import Site

SHOP = (("item", (("number", "id"),)), ("all", (("rest", "r"),)))
HOME = (("home", ()), ("any", (("any", "n"),)))
FULL = tuple((label, (("word", "a"),)) for label in "abcdefgh")
LONG = (("long", (("word", "a"),) * 6),)

NO_NAMES = [thing for thing in ODD_THINGS if not is_name(thing)] + [
    "", "A", "a1", "-", "names", "a b", " ", "a\n", "\n", "\u00e4", "[a]", "/a", ("a",), ["a"], (), [], ("put", "a"),
    nested("a", 10, True), nested("a", 10, False), 10 ** 50,
]


def all_of(site):
    """All that can be seen of a site: its tables, and those behind each step back and forth, with the words."""
    twin = site.twin()
    seen = [tables_of(twin), twin.counts()]
    for step in (twin.back, twin.forth):
        while True:
            try:
                seen.append((step(), tables_of(twin), twin.counts()))
            except NoBack:
                break
    return seen


class Sites(unittest.TestCase):
    def refuses(self, site, refusal, step, *handed):
        """The refusal changes nothing."""
        before = all_of(site)
        refuses(self, refusal, step, *handed)
        self.assertEqual(all_of(site), before)


class Putting(Sites):
    def test_a_site_without_tables(self):
        site = Site()
        self.assertEqual(site.names(), [])
        self.assertEqual(site.counts(), (0, 0))
        self.assertEqual(site.lead(()), [])
        self.assertEqual(site.lead(("a",)), [])

    def test_anew_and_in_the_stead_of_another(self):
        site = Site()
        self.assertIs(site.put("a", SHOP), False)
        self.assertEqual(site.table_of("a"), SHOP)
        self.assertIs(site.put("a", HOME), True)
        self.assertEqual(site.table_of("a"), HOME)
        self.assertIs(site.put("long", ()), False)
        self.assertIs(site.put("long", ()), True)
        self.assertEqual(tables_of(site), {"a": HOME, "long": ()})
        self.assertEqual(site.counts(), (4, 0))

    def test_the_same_again(self):
        site = site_of(a=SHOP)
        self.assertIs(site.put("a", SHOP), True)
        self.assertEqual(tables_of(site), {"a": SHOP})
        self.assertEqual(site.counts(), (2, 0))

    def test_behind_take_it_is_anew(self):
        site = site_of(a=SHOP)
        site.take("a")
        self.assertIs(site.put("a", HOME), False)
        site.back()
        site.back()
        self.assertIs(site.put("a", HOME), True)

    def test_all_names(self):
        site = Site()
        for name in ("a", "z", "az", "put", "zzzz"):
            self.assertIs(site.put(name, SHOP), False)
        self.assertEqual(site.names(), ["a", "az", "put", "z", "zzzz"])

    def test_what_is_no_name(self):
        for site in (Site(), site_of(a=SHOP, b=HOME)):
            for thing in NO_NAMES:
                with self.subTest(thing=thing):
                    self.refuses(site, NoSite, site.put, thing, HOME)

    def test_somewhat_beyond_the_bounds_nothing_else_is_refused(self):
        site, rows = Site(), tuple((label, (("word", "ninesigns"),) * 7) for label in "abcdefghi")
        self.assertIs(site.put("a", rows), False)
        self.assertEqual(site.lead(("ninesigns",) * 7), [("a", "a")])
        self.assertEqual(site.take("a"), rows)


class Taking(Sites):
    def test_table_of(self):
        site = site_of(a=SHOP, b=HOME, c=())
        for _ in range(2):
            self.assertEqual(site.table_of("a"), SHOP)
            self.assertEqual(site.table_of("b"), HOME)
            self.assertEqual(site.table_of("c"), ())
        self.assertEqual(site.counts(), (3, 0))

    def test_take(self):
        site = site_of(a=SHOP, b=HOME, c=())
        self.assertEqual(site.take("b"), HOME)
        self.assertEqual(tables_of(site), {"a": SHOP, "c": ()})
        self.refuses(site, NoSite, site.table_of, "b")
        self.refuses(site, NoSite, site.take, "b")
        self.assertEqual(site.take("c"), ())
        self.assertEqual(site.take("a"), SHOP)
        self.assertEqual(site.names(), [])

    def test_a_name_that_has_none(self):
        site = site_of(a=SHOP, ab=HOME)
        for name in ("b", "aa", "abc"):
            self.refuses(site, NoSite, site.table_of, name)
            self.refuses(site, NoSite, site.take, name)
        site = Site()
        self.refuses(site, NoSite, site.take, "a")

    def test_what_is_no_name(self):
        for site in (Site(), site_of(a=SHOP, b=HOME)):
            for thing in NO_NAMES:
                with self.subTest(thing=thing):
                    self.refuses(site, NoSite, site.table_of, thing)
                    self.refuses(site, NoSite, site.take, thing)


class Mounting(Sites):
    AHEAD = (("word", "shop"),)

    def test_the_table_becomes_both(self):
        site = site_of(a=HOME, b=SHOP)
        wanted = HOME + (("item", self.AHEAD + SHOP[0][1]), ("all", self.AHEAD + SHOP[1][1]))
        self.assertEqual(site.mount("a", self.AHEAD, "b"), wanted)
        self.assertEqual(tables_of(site), {"a": wanted, "b": SHOP})
        self.assertEqual(wanted, joined(HOME, mounted(self.AHEAD, SHOP)))

    def test_tables_without_rows(self):
        site = site_of(a=(), b=SHOP, c=())
        self.assertEqual(site.mount("b", self.AHEAD, "c"), SHOP)
        self.assertEqual(site.mount("a", (), "b"), SHOP)
        self.assertEqual(site.mount("c", (("rest", "r"),), "c"), ())
        self.assertEqual(site.counts(), (6, 0))

    def test_the_table_into_itself(self):
        site = site_of(a=SHOP, b=())
        self.refuses(site, TooMany, site.mount, "a", self.AHEAD, "a")
        self.assertEqual(site.mount("b", self.AHEAD, "b"), ())
        self.assertEqual(site.counts(), (3, 0))

    def test_no_table_of_the_one_then_of_the_other(self):
        site = site_of(a=SHOP, b=HOME)
        for name, other in (("x", "a"), ("a", "x"), ("x", "y"), ("x", "x")):
            self.refuses(site, NoSite, site.mount, name, self.AHEAD, other)

    def test_no_site_ahead_of_too_many(self):
        site = site_of(a=SHOP, f=FULL, l=LONG)
        self.refuses(site, NoSite, site.mount, "x", self.AHEAD, "l")
        self.refuses(site, NoSite, site.mount, "f", self.AHEAD, "x")

    def test_what_is_no_name(self):
        site = site_of(a=SHOP, b=HOME)
        for thing in NO_NAMES:
            with self.subTest(thing=thing):
                self.refuses(site, NoSite, site.mount, thing, self.AHEAD, "a")
                self.refuses(site, NoSite, site.mount, "a", self.AHEAD, thing)
                self.refuses(site, NoSite, site.mount, thing, self.AHEAD, thing)

    def words_of_refusal(self, step, *handed):
        with self.assertRaises(TooMany) as caught:
            step(*handed)
        return str(caught.exception)

    def test_too_many_of_mounted_then_of_joined(self):
        site = site_of(a=SHOP, f=FULL, l=LONG, b=HOME, i=(("i", ()),))
        self.refuses(site, TooMany, site.mount, "b", self.AHEAD, "l")
        self.refuses(site, TooMany, site.mount, "b", (("any", "n"),), "b")
        self.refuses(site, TooMany, site.mount, "i", (("rest", "s"),), "a")
        self.refuses(site, TooMany, site.mount, "f", (), "i")
        self.refuses(site, TooMany, site.mount, "a", (), "a")
        told = self.words_of_refusal(site.mount, "f", self.AHEAD, "l")
        self.assertEqual(told, self.words_of_refusal(mounted, self.AHEAD, LONG))
        self.assertNotEqual(told, self.words_of_refusal(joined, FULL, LONG))

    def test_8_rows_and_9(self):
        site = site_of(a=FULL[:4], b=FULL[4:], c=(("x", ()),))
        self.assertEqual(len(site.mount("a", (), "b")), 8)
        self.refuses(site, TooMany, site.mount, "a", (), "c")

    def test_what_is_led_there(self):
        tables = [table for table in small_tables(60, 111) if len(table) <= 4]
        for one, table in zip(tables, tables[1:]):
            other = tuple((label[0] + "o", pattern) for label, pattern in table)
            site = site_of(a=one, b=other)
            told = site.mount("a", (("word", "7"),), "b")
            for address in ADDRESSES:
                below = leads(other, address[1:]) if address[:1] == ("7",) else None
                wanted = leads(one, address) or below
                self.assertEqual(leads(told, address), wanted)
                self.assertEqual(dict(site.lead(address)).get("a"), wanted)


class Leading(Sites):
    def test_all_tables_that_lead_in_the_order_of_names(self):
        site = site_of(c=HOME, a=SHOP, bb=(), b=FULL, ab=HOME)
        self.assertEqual(site.lead(("a",)), [("a", "all"), ("ab", "any"), ("b", "a"), ("c", "any")])
        self.assertEqual(site.lead(("7",)), [("a", "item"), ("ab", "any"), ("c", "any")])
        self.assertEqual(site.lead(()), [("a", "all"), ("ab", "home"), ("c", "home")])
        self.assertEqual(site.lead(("x", "y")), [("a", "all")])
        self.assertEqual(site_of(b=FULL, c=HOME).lead(("x", "y")), [])
        self.assertIs(type(site.lead(())), list)
        self.assertTrue(all(type(pair) is tuple for pair in site.lead(())))

    def test_names_rise(self):
        site = Site()
        for name in ("c", "a", "zz", "b", "aa", "z"):
            site.put(name, ())
        self.assertEqual(site.names(), ["a", "aa", "b", "c", "z", "zz"])
        site.take("b")
        self.assertEqual(site.names(), ["a", "aa", "c", "z", "zz"])
        site.back()
        self.assertEqual(site.names(), ["a", "aa", "b", "c", "z", "zz"])

    def test_they_are_no_steps(self):
        site = site_of(a=SHOP)
        site.back()
        for _ in range(3):
            site.names()
            site.lead(("a",))
            site.counts()
            site.twin()
            refuses(self, NoSite, site.table_of, "a")
        self.assertEqual(site.counts(), (0, 1))
        self.assertEqual(site.forth(), "put")
        self.assertEqual(site.table_of("a"), SHOP)

    def test_behind_each_step(self):
        site = Site()
        for step, handed, wanted in (
                (site.put, ("b", SHOP), [("b", "item")]), (site.put, ("a", HOME), [("a", "any"), ("b", "item")]),
                (site.take, ("b",), [("a", "any")]), (site.put, ("a", ()), []), (site.back, (), [("a", "any")]),
                (site.back, (), [("a", "any"), ("b", "item")]),
                (site.mount, ("b", (), "a"), [("a", "any"), ("b", "item")]),
                (site.back, (), [("a", "any"), ("b", "item")]), (site.back, (), [("b", "item")]), (site.back, (), []),
                (site.forth, (), [("b", "item")])):
            step(*handed)
            self.assertEqual(site.lead(("7",)), wanted)


class BackAndForth(Sites):
    def test_each_kind_of_step(self):
        site = Site()
        states = [{}]
        for step, handed in ((site.put, ("a", SHOP)), (site.put, ("b", HOME)),
                             (site.mount, ("b", (("word", "x"),), "a")), (site.put, ("a", ())), (site.take, ("b",)),
                             (site.put, ("b", FULL)), (site.take, ("a",))):
            step(*handed)
            states.append(tables_of(site))
        steps = ["put", "put", "mount", "put", "take", "put", "take"]
        for _ in range(2):
            for at in range(6, -1, -1):
                self.assertEqual(site.back(), steps[at])
                self.assertEqual(tables_of(site), states[at])
                self.assertEqual(site.counts(), (at, 7 - at))
            self.refuses(site, NoBack, site.back)
            for at in range(7):
                self.assertEqual(site.forth(), steps[at])
                self.assertEqual(tables_of(site), states[at + 1])
                self.assertEqual(site.counts(), (at + 1, 6 - at))
            self.refuses(site, NoBack, site.forth)

    def test_at_the_start(self):
        site = Site()
        self.refuses(site, NoBack, site.back)
        self.refuses(site, NoBack, site.forth)

    def test_steps_that_changed_nothing(self):
        site = site_of(a=SHOP, b=())
        site.put("a", SHOP)
        site.mount("a", (), "b")
        self.assertEqual(site.counts(), (4, 0))
        self.assertEqual(site.back(), "mount")
        self.assertEqual(tables_of(site), {"a": SHOP, "b": ()})
        self.assertEqual(site.back(), "put")
        self.assertEqual(tables_of(site), {"a": SHOP, "b": ()})
        self.assertEqual(site.counts(), (2, 2))
        self.assertEqual(site.forth(), "put")
        self.assertEqual(site.forth(), "mount")
        self.assertEqual(tables_of(site), {"a": SHOP, "b": ()})
        self.assertEqual(site.counts(), (4, 0))

    def test_forth_behind_another_step(self):
        for step, handed in (("put", ("c", HOME)), ("put", ("a", SHOP)), ("take", ("a",)), ("mount", ("a", (), "e"))):
            site = site_of(e=(), a=SHOP)
            site.put("b", HOME)
            site.put("b", FULL)
            site.back()
            site.back()
            self.assertEqual(site.counts(), (2, 2))
            getattr(site, step)(*handed)
            self.assertEqual(site.counts(), (3, 0))
            self.refuses(site, NoBack, site.forth)
            self.assertEqual(site.back(), step)
            self.assertEqual(tables_of(site), {"a": SHOP, "e": ()})
            self.assertEqual(site.forth(), step)

    def test_forth_behind_a_refused_step(self):
        site = site_of(a=SHOP, b=HOME)
        site.back()
        for step, refusal, handed in ((site.put, NoSite, ("A", SHOP)), (site.take, NoSite, ("b",)),
                                      (site.mount, NoSite, ("a", (), "b")), (site.mount, TooMany, ("a", (), "a"))):
            self.refuses(site, refusal, step, *handed)
        self.assertEqual(site.counts(), (1, 1))
        self.assertEqual(site.forth(), "put")
        self.assertEqual(tables_of(site), {"a": SHOP, "b": HOME})

    def test_back_to_the_table_that_was_there_ahead(self):
        site = site_of(a=SHOP)
        site.put("a", HOME)
        site.put("a", FULL)
        site.back()
        self.assertEqual(site.table_of("a"), HOME)
        site.back()
        self.assertEqual(site.table_of("a"), SHOP)
        site.back()
        refuses(self, NoSite, site.table_of, "a")
        site.forth()
        self.assertEqual(site.table_of("a"), SHOP)

    def test_mount_is_done_again_as_it_was(self):
        site = site_of(a=HOME, b=SHOP)
        told = site.mount("a", (("word", "x"),), "b")
        site.back()
        self.assertEqual(site.table_of("a"), HOME)
        site.forth()
        self.assertEqual(site.table_of("a"), told)

    def test_many_steps(self):
        site = Site()
        for number in range(300):
            site.put("a", SHOP if number % 2 else HOME)
        self.assertEqual(site.counts(), (300, 0))
        for _ in range(300):
            self.assertEqual(site.back(), "put")
        self.assertEqual((site.names(), site.counts()), ([], (0, 300)))

    def test_counts_is_a_tuple(self):
        self.assertIs(type(Site().counts()), tuple)


class Twins(Sites):
    def test_a_twin_is_as_the_site(self):
        site = site_of(a=SHOP, b=HOME)
        site.take("a")
        site.back()
        site.back()
        twin = site.twin()
        self.assertIsInstance(twin, Site)
        self.assertIsNot(twin, site)
        self.assertEqual(all_of(twin), all_of(site))
        self.assertEqual(twin.counts(), (1, 2))

    def test_each_goes_by_itself(self):
        for turn in (0, 1):
            for step, handed in (("put", ("c", FULL)), ("put", ("a", HOME)), ("take", ("a",)),
                                 ("mount", ("a", (), "b")), ("back", ()), ("forth", ())):
                site = site_of(a=SHOP, b=HOME)
                site.put("z", ())
                site.back()
                pair = (site, site.twin())
                one, other = pair[turn], pair[1 - turn]
                before = all_of(other)
                getattr(one, step)(*handed)
                self.assertEqual(all_of(other), before)
                self.assertNotEqual(all_of(one), before)
                other.put("y", SHOP)
                self.assertNotIn("y", one.names())

    def test_a_twin_of_a_site_without_tables(self):
        site = Site()
        twin = site.twin()
        twin.put("a", SHOP)
        self.assertEqual(site.names(), [])
        self.refuses(site, NoBack, site.back)

    def test_a_twin_of_a_twin(self):
        site = site_of(a=SHOP)
        twin = site.twin()
        third = twin.twin()
        twin.take("a")
        third.put("b", HOME)
        self.assertEqual([each.names() for each in (site, twin, third)], [["a"], [], ["a", "b"]])
        self.assertEqual([each.counts() for each in (site, twin, third)], [(1, 0), (2, 0), (2, 0)])


class AtRandom(Sites):
    """Many steps, held against all states in a list."""

    def do_one(self, site, tables, chance, choices):
        """A step on the site and on a dict; its word, or None, where it is refused."""
        name, other = chance.choice("abcd"), chance.choice("abcd")
        word = chance.choice(("put", "put", "take", "mount", "mount"))
        if word == "put":
            table = chance.choice(choices)
            self.assertIs(site.put(name, table), name in tables)
            tables[name] = table
            return word
        if name not in tables or (word == "mount" and other not in tables):
            refuses(self, NoSite, getattr(site, word), *((name,) if word == "take" else (name, (), other)))
            return None
        if word == "take":
            self.assertEqual(site.take(name), tables.pop(name))
            return word
        ahead = chance.choice(((), (("word", "a"),), (("any", "p"),), (("any", "m"), ("any", "k"))))
        try:
            table = joined(tables[name], mounted(ahead, tables[other]))
        except TooMany:
            refuses(self, TooMany, site.mount, name, ahead, other)
            return None
        self.assertEqual(site.mount(name, ahead, other), table)
        tables[name] = table
        return word

    def move(self, site, refused, step, word):
        if refused:
            refuses(self, NoBack, step)
        else:
            self.assertEqual(step(), word)

    def test_many_steps(self):
        chance = random.Random(112)
        choices = list(small_tables(30, 113)) + [great_table(chance)]
        seen = dict.fromkeys(("put", "take", "mount", None), 0)
        for _ in range(20):
            # The states, the words of the steps between them, and where among them the site is.
            site, states, words, at = Site(), [{}], [], 0
            for _ in range(80):
                move = chance.randrange(5)
                if move == 0:
                    self.move(site, at == 0, site.back, words[at - 1] if at else None)
                    at = max(at - 1, 0)
                elif move == 1:
                    self.move(site, at == len(words), site.forth, words[at] if at < len(words) else None)
                    at = min(at + 1, len(words))
                else:
                    tables = dict(states[at])
                    word = self.do_one(site, tables, chance, choices)
                    seen[word] += 1
                    if word is not None:
                        states[at + 1:], words[at:], at = [tables], [word], at + 1
                self.assertEqual(tables_of(site), states[at])
                self.assertEqual(site.names(), sorted(states[at]))
                self.assertEqual(site.counts(), (at, len(words) - at))
                address = chance.choice(ADDRESSES)
                led = [(name, leads(states[at][name], address)) for name in sorted(states[at])]
                self.assertEqual(site.lead(address), [pair for pair in led if pair[1] is not None])
                if chance.randrange(6) == 0:
                    site = site.twin()
        self.assertGreater(min(seen.values()), 20)


class HandedInAndTold(Sites):
    def test_what_is_handed_in_is_not_changed(self):
        ahead, things = (("word", "w"),), copy.deepcopy(NO_NAMES)
        before = copy.deepcopy((SHOP, HOME, ahead, things))
        site = site_of(a=SHOP, b=HOME)
        site.mount("a", ahead, "b")
        site.lead(("7",))
        site.back()
        site.forth()
        site.take("a")
        for thing in things:
            for step in (site.table_of, site.take):
                refuses(self, NoSite, step, thing)
            refuses(self, NoSite, site.put, thing, SHOP)
            refuses(self, NoSite, site.mount, thing, ahead, thing)
        self.assertEqual((SHOP, HOME, ahead, things), before)

    def test_told_lists_are_their_getters_own(self):
        site = site_of(a=SHOP, b=HOME)
        for ask, wanted in ((site.names, ["a", "b"]), (lambda: site.lead(("7",)), [("a", "item"), ("b", "any")])):
            self.assertIsNot(ask(), ask())
            ask().clear()
            ask().append("c")
            ask()[0] = None
            self.assertEqual(ask(), wanted)
        self.assertEqual(tables_of(site), {"a": SHOP, "b": HOME})

    def test_two_sites_do_not_change_each_other(self):
        one, other = Site(), Site()
        one.put("a", SHOP)
        self.assertEqual((other.names(), other.counts()), ([], (0, 0)))
        self.refuses(other, NoBack, other.back)
        other.put("b", HOME)
        other.back()
        self.assertEqual((one.names(), one.counts()), (["a"], (1, 0)))

    def test_refusals_are_route_errors(self):
        site = Site()
        for step, handed in ((site.put, (1, ())), (site.take, ("a",)), (site.back, ()), (site.forth, ())):
            for taken in (RouteError, ValueError):
                with self.assertRaises(taken):
                    step(*handed)


if __name__ == "__main__":
    unittest.main()
