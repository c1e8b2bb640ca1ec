"""[4.1], [4.2], [0.2] (c) and [0.3]: patterns held against one another."""

import copy
import itertools
import random
import unittest

from looking import LONG_NAMES, LONG_WORDS, does, great_pattern, hold, look, look_far, small_patterns
from routeboard.comparing import aside, common, how_they_lie, is_within, uncovered
from routeboard.matching import does_match
from routeboard.patterns import is_address, is_pattern

REST = (("rest", "r"),)
# Of two kinds of parts, those that have a word in common and those that have none.
MEETING = [
    (("word", "a"), ("word", "a")), (("word", "7"), ("word", "7")), (("word", "a"), ("one", "n", ("a", "b"))),
    (("word", "7"), ("one", "n", ("7", "a"))), (("word", "7"), ("number", "n")), (("word", "0"), ("number", "n")),
    (("word", "a"), ("any", "n")), (("word", "07"), ("any", "n")), (("word", "a"), ("rest", "n")),
    (("one", "m", ("a", "b")), ("one", "n", ("b", "c"))), (("one", "m", ("a", "b")), ("one", "n", ("a", "b"))),
    (("one", "m", ("7", "a")), ("number", "n")), (("one", "m", ("07", "10")), ("number", "n")),
    (("one", "m", ("7", "8")), ("number", "n")), (("one", "m", ("a", "b")), ("any", "n")),
    (("one", "m", ("a",)), ("rest", "n")), (("number", "m"), ("number", "n")), (("number", "m"), ("any", "n")),
    (("number", "m"), ("rest", "n")), (("any", "m"), ("any", "n")), (("any", "m"), ("rest", "n")),
]
STRANGE = [
    (("word", "a"), ("word", "b")), (("word", "7"), ("word", "07")), (("word", "c"), ("one", "n", ("a", "b"))),
    (("word", "a"), ("number", "n")), (("word", "07"), ("number", "n")), (("word", "-7"), ("number", "n")),
    (("word", "1a"), ("number", "n")), (("word", "00"), ("number", "n")),
    (("one", "m", ("a", "b")), ("one", "n", ("c", "d"))), (("one", "m", ("a", "b")), ("number", "n")),
    (("one", "m", ("-1", "01")), ("number", "n")),
]
AROUND = [((), ()), ((("word", "x"),), ()), ((), (("word", "x"),)), ((("any", "p"),), (("number", "q"), ("rest", "r")))]


def around(ends, part):
    return ends[0] + (part,) + (() if part[0] == "rest" else ends[1])


class Comparing(unittest.TestCase):
    def is_common(self, one, other, many):
        for pair in ((one, other), (other, one)):
            with self.subTest(pair=pair):
                told = common(*pair)
                self.assertIs(type(told), tuple)
                self.assertTrue(is_address(told))
                self.assertTrue(does_match(one, told) and does_match(other, told))
                self.assertEqual(len(told), many)

    def have_none_in_common(self, one, other):
        for pair in ((one, other), (other, one)):
            with self.subTest(pair=pair):
                self.assertIsNone(common(*pair))

    def is_aside(self, one, other, many):
        with self.subTest(one=one, other=other):
            told = aside(one, other)
            self.assertIs(type(told), tuple)
            self.assertTrue(is_address(told))
            self.assertTrue(does_match(one, told) and not does_match(other, told))
            self.assertEqual(len(told), many)
            self.assertIs(is_within(one, other), False)

    def lies_within(self, one, other):
        with self.subTest(one=one, other=other):
            self.assertIsNone(aside(one, other))
            self.assertIs(is_within(one, other), True)

    def is_left(self, pattern, others, many):
        with self.subTest(pattern=pattern, others=others):
            told = uncovered(pattern, others)
            self.assertIs(type(told), tuple)
            self.assertTrue(is_address(told))
            self.assertTrue(does_match(pattern, told))
            self.assertFalse(any(does_match(other, told) for other in others))
            self.assertEqual(len(told), many)

    def are_covered(self, pattern, others):
        for order in itertools.islice(itertools.permutations(others), 24):
            with self.subTest(pattern=pattern, others=order):
                self.assertIsNone(uncovered(pattern, list(order)))


class InCommon(Comparing):
    def test_each_two_kinds_that_have_a_word_in_common(self):
        for one, other in MEETING:
            for ends in AROUND:
                least = max(len(around(ends, part)) - (around(ends, part)[-1][0] == "rest") for part in (one, other))
                if "rest" in (one[0], other[0]) and ends[1]:
                    continue
                self.is_common(around(ends, one), around(ends, other), least)

    def test_each_two_kinds_that_have_none(self):
        for one, other in STRANGE:
            for ends in AROUND:
                self.have_none_in_common(around(ends, one), around(ends, other))

    def test_a_rest_against_parts(self):
        self.is_common(REST, (("word", "a"),), 1)
        self.is_common(REST, (("any", "n"), ("number", "m"), ("one", "o", ("a",))), 3)
        self.is_common((("word", "a"),) + REST, (("any", "n"), ("word", "b")), 2)
        self.is_common((("number", "m"),) + REST, (("any", "n"), ("any", "o")), 2)
        self.have_none_in_common((("word", "a"),) + REST, (("word", "b"), ("any", "n")))
        self.have_none_in_common((("any", "n"), ("any", "m")) + REST, (("any", "n"),))

    def test_a_rest_against_an_end(self):
        self.is_common(REST, (), 0)
        self.is_common((("word", "a"),) + REST, (("any", "n"),), 1)
        self.have_none_in_common((("word", "a"),) + REST, ())
        self.have_none_in_common((("any", "n"),) + REST, ())

    def test_two_rests(self):
        self.is_common(REST, (("rest", "s"),), 0)
        self.is_common((("word", "a"),) + REST, REST, 1)
        self.is_common((("word", "a"),) + REST, (("any", "n"), ("any", "m"), ("number", "o")) + REST, 3)
        self.have_none_in_common((("word", "a"),) + REST, (("word", "b"),) + REST)

    def test_ends(self):
        self.is_common((), (), 0)
        self.have_none_in_common((), (("any", "n"),))
        self.have_none_in_common((("any", "n"),), (("any", "n"), ("any", "m")))

    def test_one_strange_place_is_enough(self):
        for at in range(4):
            one = [("any", name) for name in "abcd"]
            other = list(one)
            one[at], other[at] = ("word", "a"), ("number", "n")
            self.have_none_in_common(tuple(one), tuple(other))

    def test_just_the_word_in_common(self):
        self.assertEqual(common((("one", "n", ("a", "b", "c")),), (("one", "n", ("c", "d")),)), ("c",))
        self.assertEqual(common((("one", "n", ("07", "7", "a")),), (("number", "n"),)), ("7",))
        self.assertEqual(common((("any", "n"), ("word", "b")), (("word", "a"), ("any", "n"))), ("a", "b"))

    def test_at_the_bounds(self):
        wide = tuple(("one", name, tuple(sorted(LONG_WORDS[:4]))) for name in LONG_NAMES)
        numbers = tuple(("number", name) for name in LONG_NAMES)
        words = tuple(("word", word) for word in LONG_WORDS)
        self.is_common(wide, numbers, 6)
        self.is_common(wide, words[:4] + wide[4:], 6)
        self.have_none_in_common(wide, words)
        self.have_none_in_common(numbers, numbers[:5] + (("word", "00000000"),))
        self.is_common(words, words[:5] + REST, 6)
        self.is_common(words[:5] + REST, (("any", "n"),) + REST, 5)


class Aside(Comparing):
    def test_the_one_matches_more(self):
        self.is_aside((("any", "n"),), (("word", "a"),), 1)
        self.is_aside((("any", "n"),), (("number", "m"),), 1)
        self.is_aside((("any", "n"),), (("one", "m", ("a", "x", "x0", "x1")),), 1)
        self.is_aside((("number", "n"),), (("word", "0"),), 1)
        self.is_aside((("number", "n"),), (("one", "m", ("0", "1", "2", "3")),), 1)
        self.is_aside((("one", "n", ("a", "b")),), (("word", "a"),), 1)
        self.is_aside((("one", "n", ("07", "7")),), (("number", "m"),), 1)
        self.is_aside(REST, (("any", "n"),) + REST, 0)

    def test_the_one_matches_less(self):
        for word in ("a", "7", "07", "-"):
            self.lies_within((("word", word),), (("any", "n"),))
            self.lies_within((("word", word),), (("one", "n", tuple(sorted([word, "c", "d"]))),))
            self.lies_within((("word", word),), REST)
        self.lies_within((("word", "7"),), (("number", "n"),))
        self.lies_within((("one", "m", ("a", "b")),), (("one", "n", ("a", "b", "c")),))
        self.lies_within((("number", "m"),), (("any", "n"),))
        self.lies_within((), REST)
        self.lies_within((("any", "n"),) + REST, REST)

    def test_a_one_whose_words_are_all_numbers_is_within_a_number(self):
        self.lies_within((("one", "m", ("0", "10", "7", "99999999")),), (("number", "n"),))
        self.is_aside((("one", "m", ("0", "10", "7", "a")),), (("number", "n"),), 1)
        self.assertEqual(aside((("one", "m", ("00", "10", "7")),), (("number", "n"),)), ("00",))

    def test_the_same(self):
        for pattern in small_patterns():
            self.lies_within(pattern, pattern)
        self.lies_within((("any", "n"),) + REST, (("any", "m"), ("rest", "s")))
        self.lies_within((("one", "n", ("a",)),), (("word", "a"),))
        self.lies_within((("word", "a"),), (("one", "n", ("a",)),))

    def test_other_ones(self):
        self.is_aside((("word", "a"),), (("word", "b"),), 1)
        self.is_aside((("word", "07"),), (("number", "n"),), 1)
        self.is_aside((), (("any", "n"),), 0)
        self.is_aside((("any", "n"),), (), 1)
        self.is_aside((("any", "n"), ("word", "a")), (("word", "a"), ("any", "n")), 2)

    def test_words_that_are_numbers_and_words_that_are_none(self):
        self.assertEqual(aside((("one", "n", ("7", "a")),), (("number", "m"),)), ("a",))
        self.assertEqual(aside((("one", "n", ("7", "a")),), (("word", "a"),)), ("7",))
        told = aside((("any", "n"),), (("number", "m"),))
        self.assertFalse(told[0].isdigit() and (told == ("0",) or told[0][0] != "0"))
        self.assertTrue(aside((("number", "n"),), (("word", "a"),))[0].isdigit())

    def test_a_rest_that_lets_no_word_by(self):
        self.is_aside((("word", "a"),) + REST, (("word", "a"), ("any", "n")) + REST, 1)
        self.is_aside(REST, (("word", "a"),), 0)
        self.is_aside((("any", "n"),) + REST, (("any", "n"), ("any", "m")), 1)

    def test_longer_than_the_shortest_that_the_one_matches(self):
        self.is_aside(REST, (), 1)
        self.is_aside((("word", "a"),) + REST, (("word", "a"),), 2)
        self.is_aside((("any", "n"), ("any", "m")) + REST, (("any", "n"), ("any", "m")), 3)

    def test_at_the_bounds(self):
        wide = tuple(("one", name, tuple(sorted(LONG_WORDS[:4]))) for name in LONG_NAMES)
        for at, name in enumerate(LONG_NAMES):
            narrow = wide[:at] + (("one", name, tuple(sorted(LONG_WORDS[:3]))),) + wide[at + 1:]
            self.lies_within(narrow, wide)
            self.is_aside(wide, narrow, 6)
            self.assertEqual(aside(wide, narrow)[at], LONG_WORDS[3])
        anything = tuple(("any", name) for name in LONG_NAMES)
        self.lies_within(wide, anything)
        self.is_aside(anything, wide, 6)
        self.is_aside(REST, anything, 0)
        self.is_aside(anything[:5] + REST, anything[:5], 6)
        self.lies_within(anything, anything[:5] + REST)


class HowTheyLie(Comparing):
    def lie(self, one, other, how, turned):
        with self.subTest(one=one, other=other):
            self.assertEqual(how_they_lie(one, other), how)
            self.assertEqual(how_they_lie(other, one), turned)

    def test_same(self):
        self.lie((), (), "same", "same")
        self.lie((("any", "n"),), (("any", "m"),), "same", "same")
        self.lie((("word", "a"),), (("one", "m", ("a",)),), "same", "same")
        self.lie(REST, (("rest", "s"),), "same", "same")

    def test_less_and_more(self):
        self.lie((("word", "7"),), (("number", "n"),), "less", "more")
        self.lie((("number", "n"),), (("any", "n"),), "less", "more")
        self.lie((("one", "n", ("7", "8")),), (("number", "n"),), "less", "more")
        self.lie((("any", "n"),), REST, "less", "more")
        self.lie((), REST, "less", "more")
        self.lie((("word", "a"), ("any", "n")), (("any", "m"), ("any", "n")), "less", "more")

    def test_apart(self):
        self.lie((("word", "a"),), (("word", "b"),), "apart", "apart")
        self.lie((("word", "07"),), (("number", "n"),), "apart", "apart")
        self.lie((), (("any", "n"),) + REST, "apart", "apart")
        self.lie((("any", "n"),), (("any", "n"), ("any", "m")), "apart", "apart")

    def test_cross(self):
        self.lie((("one", "n", ("a", "b")),), (("one", "n", ("b", "c")),), "cross", "cross")
        self.lie((("one", "n", ("7", "a")),), (("number", "n"),), "cross", "cross")
        self.lie((("word", "a"), ("any", "n")), (("any", "n"), ("word", "a")), "cross", "cross")
        self.lie((("word", "a"),) + REST, (("any", "n"), ("any", "m")), "cross", "cross")

    def test_at_the_bounds(self):
        wide = tuple(("one", name, tuple(sorted(LONG_WORDS[:4]))) for name in LONG_NAMES)
        anything = tuple(("any", name) for name in LONG_NAMES)
        self.lie(wide, anything, "less", "more")
        self.lie(wide, wide[::-1], "same", "same")
        self.lie(wide[:3] + anything[3:], anything[:3] + wide[3:], "cross", "cross")
        self.lie(wide, anything[:5] + (("word", LONG_WORDS[5]),), "apart", "apart")


class Uncovered(Comparing):
    def test_no_others(self):
        for pattern, many in (((), 0), (REST, 0), ((("any", "n"),), 1), ((("word", "a"), ("number", "n")) + REST, 2)):
            self.is_left(pattern, [], many)

    def test_a_rest_by_the_empty_address_and_a_hole_and_a_rest(self):
        self.are_covered(REST, [(), (("any", "n"),) + REST])
        self.are_covered((("word", "a"),) + REST, [(("word", "a"),), (("any", "m"), ("any", "n")) + REST])
        self.are_covered(REST, [(), (("any", "n"),), (("any", "n"), ("any", "m")) + REST])
        self.is_left(REST, [(("any", "n"),) + REST], 0)
        self.is_left(REST, [()], 1)
        self.is_left(REST, [(), (("any", "n"), ("any", "m")) + REST], 1)

    def test_a_one_by_its_words_each(self):
        self.are_covered((("one", "n", ("a", "b", "c")),), [(("word", word),) for word in "abc"])
        self.are_covered((("one", "n", ("7", "a")),), [(("number", "m"),), (("word", "a"),)])
        self.is_left((("one", "n", ("a", "b", "c")),), [(("word", "a"),), (("word", "c"),)], 1)
        self.assertEqual(uncovered((("one", "n", ("a", "b", "c")),), [(("word", "a"),), (("word", "c"),)]), ("b",))

    def test_places_covered_only_together(self):
        pair = ("one", "n", ("a", "b"))
        pattern = (pair, ("one", "m", ("a", "b")))
        quarters = [(("word", one), ("word", other)) for one in "ab" for other in "ab"]
        self.are_covered(pattern, quarters)
        for at, quarter in enumerate(quarters):
            left = quarters[:at] + quarters[at + 1:]
            self.assertEqual(uncovered(pattern, left), tuple(part[1] for part in quarter))
        self.are_covered(pattern, [(("word", "a"), ("any", "m")), (("any", "n"), ("word", "a")), quarters[3]])

    def test_others_that_leave_something(self):
        self.is_left((("any", "n"),), [(("number", "m"),), (("word", "x0"),), (("one", "o", ("x1", "x2")),)], 1)
        self.is_left((("number", "n"),), [(("one", "m", tuple("0123")),), (("one", "m", tuple("4567")),)], 1)
        self.is_left((("any", "n"), ("any", "m")), [(("number", "n"), ("any", "m")), (("any", "n"), ("number", "m"))],
                     2)
        self.is_left(REST, [(("word", "a"),) + REST, ()], 1)

    def test_another_that_covers_all_by_itself(self):
        self.are_covered((("word", "a"),), [(("word", "b"),), REST])
        self.are_covered((), [(), (("any", "n"),)])

    def test_others_that_have_nothing_in_common_with_it(self):
        self.is_left((("word", "a"),), [(), (("word", "b"),), (("any", "n"), ("any", "m"))], 1)

    def test_longer_than_the_parts_of_the_pattern(self):
        ends = [tuple(("any", name) for name in LONG_NAMES[:many]) for many in range(7)]
        for many in range(7):
            self.is_left(REST, ends[:many], many)
        self.is_left(REST, ends, 7)
        self.is_left((("word", "a"),) + REST, ends, 7)
        self.is_left((("word", "a"),) + REST, [(("word", "a"),), (("any", "n"), ("any", "m"))], 3)
        self.is_left(REST, ends[:3] + [(("number", "n"), ("any", "m"), ("any", "o")) + REST], 3)
        self.are_covered(REST, ends[:3] + [ends[3] + REST])

    def test_as_many_words_as_there_can_be_named(self):
        for start, pattern in (("x", (("any", "n"),)), ("", (("number", "n"),))):
            fours = [sorted(f"{start}{number}" for number in range(at, at + 4)) for at in range(0, 80, 4)]
            self.is_left(pattern, [(("one", "n", tuple(four)),) for four in fours], 1)

    def test_at_the_bounds(self):
        wide = tuple(("one", name, tuple(sorted(LONG_WORDS[:4]))) for name in LONG_NAMES)
        words = [wide[:5] + (("word", word),) for word in LONG_WORDS[:4]]
        self.are_covered(wide, words)
        for at in range(4):
            self.is_left(wide, words[:at] + words[at + 1:], 6)
        diagonal = [wide[:at] + (("word", LONG_WORDS[0]),) + wide[at + 1:] for at in range(6)]
        self.is_left(wide, diagonal, 6)
        self.assertNotIn(LONG_WORDS[0], uncovered(wide, diagonal))
        rest_of_it = tuple(("one", name, tuple(sorted(LONG_WORDS[1:4]))) for name in LONG_NAMES)
        self.are_covered(wide, diagonal + [rest_of_it])

    def test_it_is_what_aside_tells_of_one_other(self):
        for one, other in itertools.product(small_patterns()[::3], repeat=2):
            self.assertEqual(uncovered(one, [other]) is None, is_within(one, other))


class PlainLooks(Comparing):
    def test_all_pairs_of_small_patterns(self):
        for one, other in itertools.product(small_patterns(), repeat=2):
            def both(address):
                return does(one, address) and does(other, address)

            def one_alone(address):
                return does(one, address) and not does(other, address)

            def other_alone(address):
                return does(other, address) and not does(one, address)

            hold(self, common(one, other), look(both), both)
            hold(self, aside(one, other), look(one_alone), one_alone)
            within, around_it = look(one_alone) is None, look(other_alone) is None
            self.assertIs(is_within(one, other), within)
            how = {(True, True): "same", (True, False): "less", (False, True): "more"}.get((within, around_it))
            self.assertEqual(how_they_lie(one, other), how or ("apart" if look(both) is None else "cross"))

    def test_uncovered_of_small_patterns(self):
        chance = random.Random(41)
        patterns = small_patterns()
        seen = {}
        for turn in range(4000):
            pattern, others = chance.choice(patterns), chance.sample(patterns, turn % 9)

            def left(address):
                return does(pattern, address) and not any(does(other, address) for other in others)

            found = look(left)
            hold(self, uncovered(pattern, others), found, left)
            how = "covered" if found is None else len(found)
            seen[how] = seen.get(how, 0) + 1
        self.assertGreater(min(seen[how] for how in ("covered", 0, 1, 2)), 20)

    def test_patterns_at_the_bounds(self):
        chance = random.Random(42)
        for _ in range(60):
            one, other = great_pattern(chance), great_pattern(chance)
            if chance.randrange(2):
                at = chance.randrange(5)
                other = one[:at] + other[at:at + 1] + one[at + 1:]
            self.assertTrue(is_pattern(one) and is_pattern(other))

            def both(address):
                return does_match(one, address) and does_match(other, address)

            def one_alone(address):
                return does_match(one, address) and not does_match(other, address)

            hold(self, common(one, other), look_far([one, other], both), both)
            hold(self, aside(one, other), look_far([one, other], one_alone), one_alone)

    def test_uncovered_at_the_bounds(self):
        chance = random.Random(43)
        for turn in range(60):
            pattern = great_pattern(chance)
            others = []
            for _ in range(8):
                at, other = chance.randrange(5), great_pattern(chance)
                others.append(pattern[:at] + other[at:at + 1] + pattern[at + 1:] if turn % 3 else other)

            def left(address):
                return does_match(pattern, address) and not any(does_match(other, address) for other in others)

            hold(self, uncovered(pattern, others), look_far([pattern] + others, left), left)


class HandedInAndTold(unittest.TestCase):
    def test_what_is_handed_in_is_not_changed(self):
        for one, other in itertools.product(small_patterns()[::4], repeat=2):
            before = copy.deepcopy((one, other))
            for ask in (common, aside, is_within, how_they_lie):
                ask(one, other)
            self.assertEqual((one, other), before)

    def test_the_others_are_not_changed(self):
        others = [(), (("any", "n"),) + REST, (("word", "a"),), REST, ()]
        before = copy.deepcopy(others)
        for pattern in ((), REST, (("word", "a"),), (("number", "n"), ("any", "m"))):
            uncovered(pattern, others)
            self.assertEqual(others, before)

    def test_others_changed_then_count_anew(self):
        others = [()]
        self.assertEqual(len(uncovered(REST, others)), 1)
        others.append((("any", "n"),) + REST)
        self.assertIsNone(uncovered(REST, others))
        others.clear()
        self.assertEqual(uncovered(REST, others), ())

    def test_asked_again_the_same_is_told(self):
        for one, other in itertools.product(small_patterns()[::4], repeat=2):
            for ask in (common, aside, is_within, how_they_lie):
                self.assertEqual(ask(one, other), ask(one, other))
            self.assertEqual(uncovered(one, [other]), uncovered(one, [other]))

    def test_somewhat_beyond_the_bounds_nothing_is_refused(self):
        long_one = (("word", "ninesigns"),) * 7
        self.assertEqual(common(long_one, REST), ("ninesigns",) * 7)
        self.assertEqual(len(aside((("any", "names"),) * 7 + REST, (("any", "names"),) * 7)), 8)
        self.assertIs(is_within(long_one, (("any", "names"),) * 7), True)
        self.assertEqual(how_they_lie(long_one, REST), "less")
        self.assertIsNone(uncovered((("one", "names", tuple("abcde")),), [(("word", word),) for word in "abcde"]))
        nine = (("any", "n"),) * 9
        self.assertTrue(does_match(nine, common(nine, nine)))


if __name__ == "__main__":
    unittest.main()
