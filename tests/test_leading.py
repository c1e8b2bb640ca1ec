"""[7.1] to [7.4], [0.2] (g) and [0.3]: leads, the addresses that they lead to, and leads turned back."""

import copy
import itertools
import random
import unittest

from looking import ADDRESSES, ODD_THINGS, Asking, does, refuses, small_patterns
from routeboard.errors import BadLead, BadValues
from routeboard.leading import are_leads, followed, labels_of, led_on, turned
from routeboard.matching import built, does_match, matched
from routeboard.patterns import is_address

ANY, NUMBER, ONE, REST = ("any", "n"), ("number", "n"), ("one", "n", ("a", "b")), ("rest", "n")
LEAST, MOST, CROSS = ("one", "n", ("a",)), ("one", "n", ("a", "b", "c")), ("one", "n", ("b", "c"))
HOLES = (ANY, NUMBER, ONE, LEAST, MOST, CROSS, REST)
# Of the pattern's hole and the goal's.
FITTING = [
    (REST, REST), (NUMBER, NUMBER), (ANY, ANY), (ONE, ANY), (LEAST, ANY), (MOST, ANY), (CROSS, ANY),
    (ONE, ONE), (LEAST, LEAST), (MOST, MOST), (CROSS, CROSS), (LEAST, ONE), (LEAST, MOST), (ONE, MOST), (CROSS, MOST),
]


def words(text):
    return tuple(text.split())


def only(*address):
    return tuple(("word", word) for word in address)


def leads_of(*pairs):
    return tuple((label, pattern, goal) for label, (pattern, goal) in zip("abcdef", pairs))


def between(*addresses):
    """Leads from each address to the next one."""
    return leads_of(*[(only(*one), only(*other)) for one, other in zip(addresses, addresses[1:])])


class Leads(Asking):
    def fits(self, say, pattern, goal):
        say(are_leads, (("a", pattern, goal),), (("x", (), ()), ("a", pattern, goal)))

    def test_none_to_six_and_seven(self):
        for many in range(7):
            self.yes(are_leads, tuple((label, (), ()) for label in "abcdef"[:many]))
        self.no(are_leads, tuple((label, (), ()) for label in "abcdefg"))
        self.no(are_leads, tuple((label, (), ()) for label in "abcdefgh"))

    def test_each_two_kinds(self):
        for mine in HOLES:
            for its in HOLES:
                say = self.yes if (mine, its) in FITTING else self.no
                self.fits(say, (mine,), (its,))
                self.fits(say, only("a", "b") + (mine,), only("x") + (its,))

    def test_a_hole_of_the_goal_that_the_pattern_has_not(self):
        for hole in HOLES:
            self.fits(self.no, (), (hole,))
            self.fits(self.no, only("n"), (hole,))
            self.fits(self.no, (("any", "m"),), (hole,))
            self.fits(self.no, (("any", "m"), ("number", "k"), ("rest", "r")), (("any", "m"), hole))

    def test_a_hole_of_the_pattern_that_the_goal_has_not(self):
        for hole in HOLES:
            self.fits(self.yes, (hole,), ())
            self.fits(self.yes, (hole,), only("n"))

    def test_several_holes_in_any_order(self):
        pattern = (ANY, ("number", "m"), ("one", "o", ("a", "b")), ("rest", "r"))
        self.fits(self.yes, pattern, (("one", "o", ("a", "b", "c")), ("any", "n"), ("number", "m"), ("rest", "r")))
        self.fits(self.yes, pattern, (("any", "o"), ("word", "x"), ("rest", "r")))
        self.fits(self.no, pattern, (("any", "o"), ("any", "m")))
        self.fits(self.no, pattern, (("one", "o", ("a", "c")),))
        self.fits(self.no, pattern, (("rest", "n"),))

    def test_a_rest_not_at_the_end(self):
        self.fits(self.no, (REST, ("word", "a")), ())
        self.fits(self.no, (REST,), (REST, ("word", "a")))
        self.fits(self.no, (REST, ("any", "m")), (("any", "m"),))

    def test_what_is_no_pattern(self):
        for wrong in (only(*"aaaaaaa"), (ANY, NUMBER), (("word", "A"),), (("any", "names"),), ("a",), [], None, "n"):
            self.fits(self.no, wrong, ())
            self.fits(self.no, (), wrong)
        self.fits(self.yes, only(*"aaaaaa"), only(*"aaaaaa"))

    def test_a_label_twice(self):
        self.no(are_leads, (("a", (), ()), ("a", (), ())), (("a", (), ()), ("b", (), ()), ("a", only("x"), ())))
        self.yes(are_leads, (("a", only("x"), ()), ("b", only("x"), ())))

    def test_what_is_no_label(self):
        self.yes(are_leads, (("long", (), ()),))
        for label in ("", "A", "longs", "a1", "-", "a\n", None, True, 1, (), []):
            self.no(are_leads, ((label, (), ()),))

    def test_lists_where_tuples_are_asked(self):
        self.yes(are_leads, (("a", (ANY,), (ANY,)),))
        self.no(are_leads, [], [("a", (ANY,), (ANY,))], (["a", (ANY,), (ANY,)],), (("a", [ANY], (ANY,)),),
                (("a", (ANY,), [ANY]),), (("a", (["any", "n"],), ()),), (("a", (ANY,), (["any", "n"],)),),
                (("a", (("one", "n", ["a"]),), ()),))

    def test_more_or_less_than_three(self):
        self.no(are_leads, ((),), (("a",),), (("a", ()),), (("a", (), (), ()),), ("a", (), ()))

    def test_one_wrong_lead_anywhere(self):
        for at in range(6):
            leads = [(label, (), ()) for label in "abcdef"]
            leads[at] = ("x", (), (ANY,))
            self.no(are_leads, tuple(leads))

    def test_any_thing(self):
        self.yes(are_leads, ())
        for thing in ODD_THINGS:
            self.no(are_leads, thing, (thing,), (("a", (), ()), thing), (("x", thing, ()),), (("x", (), thing),),
                    (("x", (thing,), ()),), (("x", (ANY,), (thing,)),))
            if not isinstance(thing, str):
                self.no(are_leads, ((thing, (), ()),), (("x", (("any", thing),), ()),), (("x", (), (("any", thing),)),))


class OneStep(unittest.TestCase):
    def test_the_first_that_matches(self):
        leads = leads_of((only("a"), only("x")), ((ANY,), only("y")), ((REST,), only("z")))
        self.assertEqual(led_on(leads, ("a",)), ("a", ("x",)))
        self.assertEqual(led_on(leads, ("b",)), ("b", ("y",)))
        self.assertEqual(led_on(leads, ("a", "b")), ("c", ("z",)))
        self.assertEqual(led_on(leads[::-1], ("a",)), ("c", ("z",)))
        self.assertIs(type(led_on(leads, ("a",))), tuple)
        self.assertIs(type(led_on(leads, ("a",))[1]), tuple)

    def test_none_that_matches(self):
        leads = leads_of((only("a"), only("x")), ((NUMBER,), (NUMBER,)))
        for address in ((), ("b",), ("07",), ("a", "a")):
            self.assertIsNone(led_on(leads, address))
        self.assertIsNone(led_on((), ()))
        self.assertIsNone(led_on((), ("a",)))

    def test_goals_with_all_holes_some_and_none(self):
        pattern = (("any", "n"), ("number", "m"), ("one", "o", ("a", "b")), ("rest", "r"))
        address = words("x 7 b p q")
        for goal, wanted in (
                (pattern, "x 7 b p q"),
                ((("one", "o", ("a", "b", "c")), ("number", "m"), ("any", "n"), ("rest", "r")), "b 7 x p q"),
                ((("word", "w"), ("any", "o"), ("rest", "r")), "w b p q"),
                ((("number", "m"), ("word", "w")), "7 w"),
                ((("rest", "r"),), "p q"),
                (only("w", "v"), "w v"),
                ((), "")):
            with self.subTest(goal=goal):
                leads = (("lead", pattern, goal),)
                self.assertTrue(are_leads(leads))
                self.assertEqual(led_on(leads, address), ("lead", words(wanted)))

    def test_a_rest_of_no_words(self):
        leads = leads_of(((("word", "a"), REST), (("word", "b"), REST)))
        self.assertEqual(led_on(leads, ("a",)), ("a", ("b",)))
        self.assertEqual(led_on(leads_of(((REST,), (REST,))), ()), ("a", ()))

    def test_an_address_that_is_led_to_itself(self):
        for address in ((), ("a",), words("a b c d e f g h")):
            self.assertEqual(led_on(leads_of(((REST,), (REST,))), address), ("a", address))

    def test_8_words_and_9(self):
        leads = leads_of(((REST,), only("x") + (REST,)))
        self.assertEqual(led_on(leads, ("a",) * 7), ("a", ("x",) + ("a",) * 7))
        refuses(self, BadLead, led_on, leads, ("a",) * 8)
        leads = leads_of(((("any", "m"), REST), only(*"xyzxy") + (REST,)))
        self.assertEqual(led_on(leads, ("a",) * 4), ("a", words("x y z x y a a a")))
        for many in (5, 6, 7, 8):
            refuses(self, BadLead, led_on, leads, ("a",) * many)

    def test_the_first_that_matches_is_refused_though_a_later_one_is_good(self):
        leads = leads_of(((REST,), only("x") + (REST,)), ((REST,), ()))
        refuses(self, BadLead, led_on, leads, ("a",) * 8)
        self.assertEqual(led_on(leads[::-1], ("a",) * 8), ("b", ()))

    def test_numbers_of_8_figures(self):
        leads = leads_of(((NUMBER,), only("x") + (NUMBER,)))
        for word in ("0", "10", "99999999"):
            self.assertEqual(led_on(leads, (word,)), ("a", ("x", word)))

    def test_somewhat_beyond_the_bounds_nothing_else_is_refused(self):
        leads = leads_of(((NUMBER,), (NUMBER,)), ((ANY,), only("ninesigns") + (ANY,)), ((REST,), ())) + (
            ("labels", (), ()),) * 4
        self.assertEqual(led_on(leads, ("123456789",)), ("a", ("123456789",)))
        self.assertEqual(led_on(leads, ("ninesigns",)), ("b", ("ninesigns", "ninesigns")))
        self.assertEqual(led_on(leads, ("a",) * 9), ("c", ()))

    def test_a_plain_look(self):
        for leads in small_leads(120, 71):
            for address in ADDRESSES:
                self.assertEqual(led_on(leads, address), plain_step(leads, address))


def goal_of(pattern, chance):
    """A goal of 0 to 3 parts that the pattern can fill."""
    holes = [part for part in pattern if part[0] != "word"]
    chance.shuffle(holes)
    parts = [("word", chance.choice("a70"))] * chance.randrange(2)
    for hole in holes[:chance.randrange(len(holes) + 1)]:
        parts.append(("any", hole[1]) if hole[0] == "one" and chance.randrange(2) else hole)
    chance.shuffle(parts)
    return tuple(sorted(parts, key=lambda part: part[0] == "rest"))


def small_leads(many, seed):
    chance = random.Random(seed)
    patterns = small_patterns()
    for turn in range(many):
        picked = chance.sample(patterns, turn % 7)
        leads = leads_of(*[(pattern, goal_of(pattern, chance)) for pattern in picked])
        assert are_leads(leads)
        yield leads


def plain_step(leads, address):
    for label, pattern, goal in leads:
        if does(pattern, address):
            names = [part[1] for part in goal if part[0] != "word"]
            try:
                return (label, built(goal, [pair for pair in matched(pattern, address) if pair[0] in names]))
            except BadValues as refusal:
                raise BadLead from refusal
    return None


def plain_way(leads, address):
    addresses, labels = [address], []
    while True:
        step = plain_step(leads, addresses[-1])
        if step is None:
            return addresses, labels, False
        labels.append(step[0])
        if step[1] in addresses:
            return addresses, labels, True
        addresses.append(step[1])


class TheWhole(unittest.TestCase):
    def goes(self, leads, addresses, comes_round, labels):
        with self.subTest(leads=leads):
            self.assertTrue(are_leads(leads))
            told = followed(leads, addresses[0])
            self.assertEqual(told, (addresses, comes_round))
            self.assertIs(type(told), tuple)
            self.assertIs(type(told[0]), list)
            self.assertIs(told[1], comes_round)
            self.assertEqual(labels_of(leads, addresses[0]), list(labels))
            self.assertIs(type(labels_of(leads, addresses[0])), list)

    def test_a_way_that_ends_at_once(self):
        self.goes((), [()], False, "")
        self.goes((), [("a",)], False, "")
        self.goes(between(("b",), ("c",)), [("a",)], False, "")

    def test_a_way_that_ends_behind_some_steps(self):
        self.goes(between(("a",), ("b",)), [("a",), ("b",)], False, "a")
        stops = [("a",), ("b",), (), ("c",), ("d", "e"), ("f",), ("g",)]
        self.goes(between(*stops), stops, False, "abcdef")
        self.goes(between(*stops), stops[3:], False, "def")

    def test_a_way_that_comes_round_to_its_first_address(self):
        self.goes(between(("a",), ("b",), ("a",)), [("a",), ("b",)], True, "ab")
        self.goes(between(("a",), ("b",), ("c",), ("a",)), [("a",), ("b",), ("c",)], True, "abc")
        self.goes(between(("a",), ("b",), ("c",), ("a",)), [("c",), ("a",), ("b",)], True, "cab")

    def test_a_way_that_comes_round_to_a_later_address(self):
        self.goes(between(("a",), ("b",), ("c",), ("b",)), [("a",), ("b",), ("c",)], True, "abc")
        self.goes(between(("x",), ("a",), ("b",), ("c",), ("d",), ("b",)), [("x",), ("a",), ("b",), ("c",), ("d",)],
                  True, "abcde")

    def test_a_way_that_comes_round_to_the_last_address_itself(self):
        self.goes(between(("a",), ("a",)), [("a",)], True, "a")
        self.goes(between((), ()), [()], True, "a")
        self.goes(between(("a",), ("b",), ("c",), ("c",)), [("a",), ("b",), ("c",)], True, "abc")

    def test_one_lead_gone_several_times(self):
        drop = (("drop", (("any", "n"), ("rest", "r")), (("rest", "r"),)),)
        self.assertEqual(followed(drop, words("a b c")), ([words("a b c"), words("b c"), ("c",), ()], False))
        self.assertEqual(labels_of(drop, words("a b c")), ["drop"] * 3)

    def test_holes_that_go_round(self):
        turn = (("turn", (("any", "n"), ("any", "m"), ("any", "k")), (("any", "m"), ("any", "k"), ("any", "n"))),)
        self.assertEqual(followed(turn, words("a b c")), ([words("a b c"), words("b c a"), words("c a b")], True))
        self.assertEqual(labels_of(turn, words("a b c")), ["turn"] * 3)
        self.assertEqual(followed(turn, words("a a a")), ([words("a a a")], True))
        self.assertEqual(labels_of(turn, words("a a a")), ["turn"])

    def test_a_long_way(self):
        self.assertTrue(are_leads(counter(6)))
        # Counters of more places lie somewhat beyond the bounds.
        for places in (1, 2, 6, 8):
            start, end = ("0",) * places, ("1",) * places
            numbers = [tuple(reversed(word)) for word in itertools.product("01", repeat=places)]
            self.assertEqual(followed(counter(places), start), (numbers, False))
            self.assertEqual(len(labels_of(counter(places), start)), 2 ** places - 1)
            anew = counter(places) + (("anew", only(*end), only(*start)),)
            self.assertEqual(followed(anew, start), (numbers, True))
            self.assertEqual(labels_of(anew, start)[-1], "anew")

    def test_bad_lead_on_the_way(self):
        leads = (("more", (("word", "a"), ("rest", "r")), (("word", "a"), ("word", "a"), ("rest", "r"))),)
        for many in range(1, 9):
            refuses(self, BadLead, followed, leads, ("a",) * many)
            refuses(self, BadLead, labels_of, leads, ("a",) * many)
        self.assertEqual(followed(leads, ("b",)), ([("b",)], False))
        leads += (("to", (("word", "b"), ("rest", "r")), (("word", "a"), ("rest", "r"))),)
        refuses(self, BadLead, followed, leads, ("b", "c"))
        refuses(self, BadLead, labels_of, leads, ("b", "c"))

    def test_a_plain_look(self):
        rounds = {True: 0, False: 0, "refused": 0}
        for leads in small_leads(120, 72):
            for address in ADDRESSES:
                try:
                    addresses, labels, comes_round = plain_way(leads, address)
                except BadLead:
                    refuses(self, BadLead, followed, leads, address)
                    refuses(self, BadLead, labels_of, leads, address)
                    rounds["refused"] += 1
                    continue
                self.assertEqual(followed(leads, address), (addresses, comes_round))
                self.assertEqual(labels_of(leads, address), labels)
                self.assertEqual(len(labels), len(addresses) if comes_round else len(addresses) - 1)
                rounds[comes_round] += 1
        self.assertGreater(min(rounds.values()), 100)


def counter(places):
    """Leads that count up words of so many 0 and 1, the lowest place first."""
    leads = []
    for at in range(places):
        behind = (("rest", "r"),) if at < places - 1 else ()
        leads.append((only(*["1"] * at, "0") + behind, only(*["0"] * at, "1") + behind))
    return tuple((label, *pair) for label, pair in zip("abcdefgh", leads))


class TurningBack(unittest.TestCase):
    def turns(self, pattern, goal):
        lead = ("lead", pattern, goal)
        with self.subTest(lead=lead):
            self.assertTrue(are_leads((lead,)))
            self.assertEqual(turned(lead), ("lead", goal, pattern))
            self.assertIs(type(turned(lead)), tuple)
            self.assertTrue(are_leads((turned(lead),)))
            self.assertEqual(turned(turned(lead)), lead)

    def turns_not(self, pattern, goal):
        lead = ("lead", pattern, goal)
        with self.subTest(lead=lead):
            self.assertTrue(are_leads((lead,)))
            self.assertIsNone(turned(lead))

    def test_goals_that_tell_all_holes(self):
        self.turns((), ())
        self.turns(only("a", "b"), only("c"))
        self.turns((ANY, ("number", "m")), (("number", "m"), ("word", "a"), ANY))
        self.turns((("one", "o", ("a", "b")), REST), (("word", "x"), ("one", "o", ("a", "b")), REST))

    def test_goals_that_leave_some_out(self):
        for hole in HOLES:
            self.turns_not((hole,), ())
            self.turns_not((("any", "m"), hole), (("any", "m"), ("word", "n")))

    def test_kinds_that_would_not_fit(self):
        for mine, its in FITTING:
            if mine == its:
                self.turns((mine,), (its,))
            else:
                self.turns_not((mine,), (its,))

    def test_an_address_that_is_led_on_is_led_back(self):
        seen = 0
        for leads in small_leads(300, 73):
            for lead in leads:
                back = turned(lead)
                if back is None:
                    continue
                self.assertEqual(turned(back), lead)
                for address in ADDRESSES:
                    if does(lead[1], address):
                        seen += 1
                        goal = led_on((lead,), address)[1]
                        self.assertEqual(led_on((back,), goal), (lead[0], address))
        self.assertGreater(seen, 1000)

    def test_turned_just_if_it_is_a_lead(self):
        holes = [(), (ANY,), (NUMBER,), (ONE,), (LEAST,), (REST,), (ANY, ("rest", "m")), (("any", "m"), REST)]
        for pattern, goal in itertools.product(holes, repeat=2):
            if are_leads((("a", pattern, goal),)):
                back = ("a", goal, pattern)
                self.assertEqual(turned(("a", pattern, goal)), back if are_leads((back,)) else None)


class HandedInAndTold(unittest.TestCase):
    LEADS = (("a", only("a") + (REST,), only("b") + (REST,)), ("more", (("word", "m"), REST), only("a", "b") + (REST,)))

    def test_what_is_handed_in_is_not_changed(self):
        before = copy.deepcopy(self.LEADS)
        for ask in (led_on, followed, labels_of):
            for address in ((), ("a", "b"), ("m",) + ("a",) * 7):
                try:
                    ask(self.LEADS, address)
                except BadLead:
                    pass
        turned(self.LEADS[0])
        are_leads(self.LEADS)
        self.assertEqual(self.LEADS, before)
        for thing in ODD_THINGS + [[("a", (), ())], (["a", (), ()],)]:
            before = copy.deepcopy(thing)
            are_leads(thing)
            self.assertEqual(thing, before)

    def test_a_told_list_is_its_getters_own(self):
        wanted = ([("a", "c"), ("b", "c")], False)
        for spoil in (list.clear, list.pop, lambda told: told.append(())):
            spoil(followed(self.LEADS, ("a", "c"))[0])
            spoil(labels_of(self.LEADS, ("a", "c")))
            self.assertEqual(followed(self.LEADS, ("a", "c")), wanted)
            self.assertEqual(labels_of(self.LEADS, ("a", "c")), ["a"])
        self.assertIsNot(followed((), ())[0], followed((), ())[0])
        self.assertIsNot(labels_of((), ()), labels_of((), ()))

    def test_asked_again_the_same_is_told(self):
        for _ in range(3):
            self.assertIs(are_leads(self.LEADS), True)
            self.assertEqual(led_on(self.LEADS, ("m",)), ("more", ("a", "b")))
            self.assertEqual(followed(self.LEADS, ("m",)), ([("m",), ("a", "b"), ("b", "b")], False))
            refuses(self, BadLead, led_on, self.LEADS, ("m",) + ("a",) * 7)
            self.assertEqual(turned(self.LEADS[0]), ("a", self.LEADS[0][2], self.LEADS[0][1]))

    def test_told_addresses_are_addresses_that_the_goal_matches(self):
        for leads in small_leads(60, 74):
            for address in ADDRESSES:
                step = led_on(leads, address)
                if step is not None:
                    self.assertTrue(is_address(step[1]))
                    self.assertTrue(does_match({lead[0]: lead[2] for lead in leads}[step[0]], step[1]))


if __name__ == "__main__":
    unittest.main()
