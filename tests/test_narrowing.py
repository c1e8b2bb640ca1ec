"""[9.1], [0.2] (i) and [0.3]: patterns counted, told by other names, more closely and more widely."""

import copy
import itertools
import random
import unittest

from looking import ADDRESSES, LONG_WORDS, ODD_THINGS, WORDS, does, great_pattern, nested, refuses, small_patterns
from routeboard.comparing import is_within
from routeboard.errors import BadValues, NoHole, Taken, TooMany
from routeboard.matching import does_match, matched
from routeboard.narrowing import bounds, kind_counts, narrowed, renamed, widened
from routeboard.patterns import is_pattern, is_word

SHOP = (("word", "shop"), ("number", "id"), ("one", "kind", ("a", "b")), ("any", "x"), ("rest", "more"))
HOLES = (("any", "n"), ("number", "n"), ("one", "n", ("0", "7", "a")), ("rest", "n"))


def words(*some):
    return tuple(("word", word) for word in some)


class Counting(unittest.TestCase):
    def tells(self, pattern, counts, least, greatest):
        with self.subTest(pattern=pattern):
            self.assertEqual(kind_counts(pattern), counts)
            self.assertIs(type(kind_counts(pattern)), tuple)
            self.assertEqual(bounds(pattern), (least, greatest))
            self.assertIs(type(bounds(pattern)), tuple)

    def test_each_kind(self):
        self.tells((), (0, 0, 0, 0, 0), 0, 0)
        self.tells((("word", "a"),), (1, 0, 0, 0, 0), 1, 1)
        self.tells((("one", "n", ("a", "b")),), (0, 1, 0, 0, 0), 1, 1)
        self.tells((("number", "n"),), (0, 0, 1, 0, 0), 1, 1)
        self.tells((("any", "n"),), (0, 0, 0, 1, 0), 1, 1)
        self.tells((("rest", "n"),), (0, 0, 0, 0, 1), 0, 8)

    def test_words_that_are_called_like_kinds(self):
        self.tells(words("word", "one", "rest", "any"), (4, 0, 0, 0, 0), 4, 4)
        self.tells((("any", "one"), ("number", "rest"), ("one", "any", ("rest",))), (0, 1, 1, 1, 0), 3, 3)

    def test_several_kinds(self):
        self.tells(SHOP, (1, 1, 1, 1, 1), 4, 8)
        self.tells(SHOP[:-1], (1, 1, 1, 1, 0), 4, 4)
        self.tells(words("a", "b") + (("any", "n"), ("any", "m"), ("number", "k")), (2, 0, 1, 2, 0), 5, 5)
        self.tells(words(*"aaaaaa"), (6, 0, 0, 0, 0), 6, 6)
        self.tells(words(*"aaaaa") + (("rest", "r"),), (5, 0, 0, 0, 1), 5, 8)

    def test_of_all_addresses_that_match(self):
        for pattern in small_patterns():
            lengths = [len(address) for address in ADDRESSES if does(pattern, address)]
            lengths += [many for many in range(4, 9) if does(pattern, ("7",) * many)]
            lengths += [many for many in range(4, 9) if does(pattern, ("a", "7") + ("a",) * (many - 2))]
            lengths += [many for many in range(4, 9) if does(pattern, ("7", "a") + ("a",) * (many - 2))]
            lengths += [many for many in range(4, 9) if does(pattern, ("a",) * many)]
            self.assertEqual(bounds(pattern), (min(lengths), max(lengths)))
            self.assertEqual(sum(kind_counts(pattern)), len(pattern))

    def test_somewhat_beyond_the_bounds(self):
        self.tells(words(*"aaaaaaa") + (("rest", "names"),), (7, 0, 0, 0, 1), 7, 8)


class OtherNames(unittest.TestCase):
    def test_a_free_name(self):
        for hole in HOLES:
            for ahead in ((), words("n"), (("any", "m"),)):
                told = renamed(ahead + (hole,), "n", "new")
                self.assertEqual(told, ahead + ((hole[0], "new") + hole[2:],))
                self.assertTrue(is_pattern(told))

    def test_among_others(self):
        self.assertEqual(renamed(SHOP, "id", "no"), SHOP[:1] + (("number", "no"),) + SHOP[2:])
        self.assertEqual(renamed(SHOP, "kind", "k"), SHOP[:2] + (("one", "k", ("a", "b")),) + SHOP[3:])
        self.assertEqual(renamed(SHOP, "more", "r"), SHOP[:4] + (("rest", "r"),))

    def test_its_own_name(self):
        for name in ("id", "kind", "x", "more"):
            self.assertEqual(renamed(SHOP, name, name), SHOP)

    def test_the_name_of_another_hole(self):
        for old, new in itertools.permutations(("id", "kind", "x", "more"), 2):
            refuses(self, Taken, renamed, SHOP, old, new)

    def test_of_no_hole(self):
        for pattern, name in ((SHOP, "shop"), (SHOP, "a"), (SHOP, "xx"), ((), "n"), (words("n"), "n")):
            for new in ("new", name):
                refuses(self, NoHole, renamed, pattern, name, new)

    def test_of_no_hole_ahead_of_taken(self):
        refuses(self, NoHole, renamed, SHOP, "none", "id")

    def test_a_word_does_not_take_a_name(self):
        self.assertEqual(renamed(words("m") + (("any", "n"),), "n", "m"), words("m") + (("any", "m"),))

    def test_there_and_back(self):
        for pattern in small_patterns():
            for name in [part[1] for part in pattern if part[0] != "word"]:
                told = renamed(pattern, name, "new")
                self.assertEqual(renamed(told, "new", name), pattern)
                for address in ADDRESSES[:31]:
                    values = matched(pattern, address)
                    wanted = values and [("new" if hole == name else hole, value) for hole, value in values]
                    self.assertEqual(matched(told, address), wanted)

    def test_somewhat_beyond_the_bounds_nothing_else_is_refused(self):
        self.assertEqual(renamed((("any", "n"),) + words(*"aaaaaaa"), "n", "names"),
                         (("any", "names"),) + words(*"aaaaaaa"))


class Narrowing(unittest.TestCase):
    def tells(self, pattern, name, value, wanted):
        with self.subTest(pattern=pattern, value=value):
            told = narrowed(pattern, name, value)
            self.assertEqual(told, wanted)
            self.assertIs(type(told), tuple)
            self.assertTrue(is_pattern(told))

    def test_each_kind_of_hole_with_a_word_that_it_lets_by(self):
        for kind, lets in ((0, ("a", "7", "07", "-", "12345678")), (1, ("0", "7", "99999999")), (2, ("0", "7", "a"))):
            for word in lets:
                self.tells((HOLES[kind],), "n", word, words(word))
                self.tells(words("n") + (HOLES[kind], ("rest", "r")), "n", word, words("n", word) + (("rest", "r"),))

    def test_each_kind_of_hole_with_a_word_that_it_does_not_let_by(self):
        for word in ("01", "00", "-1", "a", "0a", "-"):
            refuses(self, BadValues, narrowed, (("number", "n"),), "n", word)
        for word in ("1", "b", "07", "aa", "n"):
            refuses(self, BadValues, narrowed, (HOLES[2],), "n", word)

    def test_texts_that_are_no_words(self):
        for hole in HOLES:
            for text in ("", "A", "a b", "a/b", "ninesigns", "123456789", "a\n", "\u00e4", "\u0663", ":n"):
                refuses(self, BadValues, narrowed, (hole,), "n", text)
                refuses(self, BadValues, narrowed, (hole,), "n", (text,))
                refuses(self, BadValues, narrowed, (hole,), "n", ("a", text))

    def test_values_of_another_kind(self):
        odd = (True, False, None, 0, 7, -1, 10 ** 50, [], ["a"], ["7"], [()], (("a",),), (("7",),), ((),), (None,),
               (True,), (7,), (["a"],), ("a", 7), ("a", None), nested("a", 10, False), nested("7", 10, True))
        for hole in HOLES:
            for value in odd:
                with self.subTest(hole=hole, value=value):
                    refuses(self, BadValues, narrowed, (hole,), "n", value)

    def test_a_tuple_for_what_is_no_rest_and_a_word_for_a_rest(self):
        for hole in HOLES[:3]:
            for value in ((), ("7",), ("7", "7")):
                refuses(self, BadValues, narrowed, (hole,), "n", value)
        for value in ("", "7", "a", "abc"):
            refuses(self, BadValues, narrowed, (HOLES[3],), "n", value)

    def test_any_thing(self):
        for thing in ODD_THINGS:
            for hole in HOLES:
                if hole[0] == "any" and is_word(thing):
                    self.tells((hole,), "n", thing, words(thing))
                elif hole[0] == "one" and thing == "a":
                    self.tells((hole,), "n", thing, words("a"))
                else:
                    refuses(self, BadValues, narrowed, (hole,), "n", thing)
                refuses(self, NoHole, narrowed, (hole,), "m", thing)

    def test_a_rest_by_none_and_some_words(self):
        self.tells((("rest", "r"),), "r", (), ())
        self.tells(words("a") + (("rest", "r"),), "r", (), words("a"))
        self.tells((("any", "n"), ("rest", "r")), "r", ("a", "7"), (("any", "n"),) + words("a", "7"))
        self.tells((("rest", "r"),), "r", ("r",), words("r"))

    def test_a_rest_by_so_many_that_there_are_6_parts_and_7(self):
        for ahead in range(6):
            pattern = words(*"aaaaa"[:ahead]) + (("rest", "r"),)
            self.tells(pattern, "r", ("b",) * (6 - ahead), words(*"aaaaa"[:ahead]) + words("b") * (6 - ahead))
            for more in (1, 2, 3, 10):
                refuses(self, TooMany, narrowed, pattern, "r", ("b",) * (6 - ahead + more))

    def test_in_which_order_refusals_come(self):
        for value in (None, "A", ("a",) * 9, ("A",) * 9, "7", ("7",)):
            refuses(self, NoHole, narrowed, SHOP, "none", value)
            refuses(self, NoHole, narrowed, words(*"aaaaaaa"), "a", value)
        for value in (("A",) * 9, ("a",) * 8 + (None,), ("ninesigns",) * 7):
            refuses(self, BadValues, narrowed, SHOP, "more", value)
        refuses(self, TooMany, narrowed, SHOP, "more", ("a",) * 3)
        seven = words(*"aaaaaa") + (("number", "n"),)
        refuses(self, BadValues, narrowed, seven, "n", 7)
        refuses(self, TooMany, narrowed, seven, "n", "7")

    def test_of_no_hole(self):
        for pattern, name in (((), "n"), (words("n"), "n"), (SHOP, "shop"), (SHOP, "i"), (SHOP, "")):
            refuses(self, NoHole, narrowed, pattern, name, "a")

    def test_the_first_the_last_and_the_one_between(self):
        pattern = (("any", "a"), ("any", "b"), ("any", "c"))
        self.tells(pattern, "a", "x", words("x") + pattern[1:])
        self.tells(pattern, "b", "x", pattern[:1] + words("x") + pattern[2:])
        self.tells(pattern, "c", "x", pattern[:2] + words("x"))

    def test_just_the_addresses_with_this_value_are_left(self):
        for pattern in small_patterns():
            for name, kind in [(part[1], part[0]) for part in pattern if part[0] != "word"]:
                values = [(), ("a",), ("7", "x")] if kind == "rest" else list(WORDS)
                for value in values:
                    wanted = int(value) if kind == "number" and value.isdigit() else value
                    try:
                        told = narrowed(pattern, name, value)
                    except BadValues:
                        self.assertNotEqual(kind, "rest")
                        told = None
                    for address in ADDRESSES:
                        held = matched(pattern, address)
                        here = held is not None and dict(held)[name] == wanted
                        self.assertEqual(told is not None and does(told, address), here)


class Widening(unittest.TestCase):
    def tells(self, pattern, at, wanted):
        with self.subTest(pattern=pattern, at=at):
            self.assertEqual(widened(pattern, at), wanted)
            self.assertTrue(is_pattern(widened(pattern, at)))

    def test_at_each_place(self):
        self.tells(SHOP, 0, (("rest", "r"),))
        self.tells(SHOP, 1, SHOP[:1] + (("rest", "r"),))
        self.tells(SHOP, 2, SHOP[:2] + (("rest", "r"),))
        self.tells(SHOP, 3, SHOP[:3] + (("rest", "r"),))
        self.tells(words(*"aaaaaa"), 5, words(*"aaaaa") + (("rest", "r"),))
        for part in words("a") + HOLES[:3]:
            self.tells((part,), 0, (("rest", "r"),))

    def test_a_rest_stays(self):
        self.tells(SHOP, 4, SHOP)
        for name in ("r", "s", "n", "more"):
            self.tells((("rest", name),), 0, (("rest", name),))
            self.tells((("any", "m"), ("rest", name)), 1, (("any", "m"), ("rest", name)))
        self.tells((("any", "r"), ("rest", "q")), 1, (("any", "r"), ("rest", "q")))

    def test_names_that_holes_ahead_have(self):
        self.tells((("any", "r"), ("any", "q")), 1, (("any", "r"), ("rest", "s")))
        self.tells((("any", "s"), ("any", "q")), 1, (("any", "s"), ("rest", "r")))
        self.tells((("any", "s"), ("any", "r"), ("any", "q")), 2, (("any", "s"), ("any", "r"), ("rest", "t")))
        self.tells((("any", "r"), ("any", "t"), ("any", "q")), 2, (("any", "r"), ("any", "t"), ("rest", "s")))
        holes = tuple(("any", name) for name in "rstuvw")
        for at, name in enumerate("rstuvw"):
            self.tells(holes, at, holes[:at] + (("rest", name),))
        more = tuple(("any", name) for name in "rstuvwx")
        self.assertEqual(widened(more, 6), more[:6] + (("rest", "x"),))

    def test_names_of_each_kind_of_hole_ahead(self):
        for hole in (("any", "r"), ("number", "r"), ("one", "r", ("a",))):
            self.tells((hole, ("any", "n")), 1, (hole, ("rest", "s")))

    def test_names_of_words_and_of_holes_that_go_are_free(self):
        self.tells(words("r", "a"), 1, words("r") + (("rest", "r"),))
        self.tells((("any", "n"), ("any", "r"), ("any", "s")), 1, (("any", "n"), ("rest", "r")))
        self.tells((("any", "r"), ("any", "s")), 0, (("rest", "r"),))
        self.tells((("any", "r"), ("any", "t"), ("any", "s")), 1, (("any", "r"), ("rest", "s")))
        self.tells((("any", "n"), ("any", "m"), ("rest", "r")), 1, (("any", "n"), ("rest", "r")))
        self.tells((("one", "n", ("r",)), ("any", "m")), 1, (("one", "n", ("r",)), ("rest", "r")))

    def test_where_no_part_has_the_number(self):
        for pattern in ((), words("a"), SHOP, (("rest", "r"),), words(*"aaaaaa")):
            for at in (-1, -2, -len(pattern), len(pattern), len(pattern) + 1, 8, 100, -100):
                if not 0 <= at < len(pattern):
                    refuses(self, NoHole, widened, pattern, at)


class Within(unittest.TestCase):
    """[0.2] (i)."""

    def test_a_pattern_narrowed_lies_within_it(self):
        chance = random.Random(91)
        for pattern in small_patterns() + [great_pattern(chance) for _ in range(60)]:
            for hole in [part for part in pattern if part[0] != "word"]:
                values = [(), ("x",)] if hole[0] == "rest" else ["a", "7", "0"] + list(LONG_WORDS)
                for value in values:
                    try:
                        told = narrowed(pattern, hole[1], value)
                    except (BadValues, TooMany):
                        continue
                    self.assertTrue(is_within(told, pattern))

    def test_a_pattern_lies_within_it_widened(self):
        chance = random.Random(92)
        for pattern in small_patterns() + [great_pattern(chance) for _ in range(60)]:
            for at in range(len(pattern)):
                told = widened(pattern, at)
                self.assertTrue(is_pattern(told))
                self.assertTrue(is_within(pattern, told))
                for address in ADDRESSES[:31]:
                    ahead = pattern[:at] + (("rest", "zzzz"),)
                    self.assertEqual(does_match(told, address), does_match(ahead, address))


class HandedInAndTold(unittest.TestCase):
    def test_what_is_handed_in_is_not_changed(self):
        value = ["a", ["b"]]
        before = copy.deepcopy((SHOP, value))
        kind_counts(SHOP)
        bounds(SHOP)
        renamed(SHOP, "id", "new")
        refuses(self, Taken, renamed, SHOP, "id", "x")
        narrowed(SHOP, "more", ("a",))
        refuses(self, BadValues, narrowed, SHOP, "more", value)
        refuses(self, BadValues, narrowed, SHOP, "x", value)
        widened(SHOP, 1)
        self.assertEqual((SHOP, value), before)

    def test_asked_again_the_same_is_told(self):
        for _ in range(3):
            self.assertEqual(kind_counts(SHOP), (1, 1, 1, 1, 1))
            self.assertEqual(bounds(SHOP), (4, 8))
            self.assertEqual(renamed(SHOP, "x", "y")[3], ("any", "y"))
            self.assertEqual(narrowed(SHOP, "id", "7")[1], ("word", "7"))
            refuses(self, BadValues, narrowed, SHOP, "id", 7)
            self.assertEqual(widened(SHOP, 1), SHOP[:1] + (("rest", "r"),))


if __name__ == "__main__":
    unittest.main()
