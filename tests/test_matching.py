"""[2.1], [2.2], [0.2] (a) and [0.3]: matching addresses, and building them."""

import copy
import itertools
import unittest

from routeboard.errors import BadValues, RouteError
from routeboard.matching import built, does_match, matched
from routeboard.patterns import is_address

SHOP = (("word", "shop"), ("number", "id"), ("one", "kind", ("a", "b")), ("any", "x"), ("rest", "more"))


class Matching(unittest.TestCase):
    def lets(self, pattern, address, values):
        with self.subTest(pattern=pattern, address=address):
            self.assertEqual(matched(pattern, address), values)
            # [(n, 1)] == [(n, True)], so the kinds are asked for, too.
            self.assertEqual([type(value) for _, value in matched(pattern, address)],
                             [type(value) for _, value in values])
            self.assertIs(does_match(pattern, address), True)

    def stops(self, pattern, *addresses):
        for address in addresses:
            with self.subTest(pattern=pattern, address=address):
                self.assertIs(matched(pattern, address), None)
                self.assertIs(does_match(pattern, address), False)

    def test_word(self):
        self.lets((("word", "a"),), ("a",), [])
        self.stops((("word", "a"),), ("b",), ("aa",), ("-",), ("1",))

    def test_word_of_figures(self):
        self.lets((("word", "7"),), ("7",), [])
        self.stops((("word", "7"),), ("07",), ("8",))

    def test_any(self):
        for word in ("a", "abcdefgh", "-", "7", "07", "-1", "shop"):
            self.lets((("any", "n"),), (word,), [("n", word)])

    def test_one(self):
        pattern = (("one", "n", ("a", "b", "cd", "e")),)
        for word in ("a", "b", "cd", "e"):
            self.lets(pattern, (word,), [("n", word)])
        self.stops(pattern, ("c",), ("d",), ("ab",), ("n",), ("f",), ("-",))

    def test_one_of_figures_tells_a_word(self):
        self.lets((("one", "n", ("01", "7")),), ("7",), [("n", "7")])
        self.lets((("one", "n", ("01", "7")),), ("01",), [("n", "01")])

    def test_number(self):
        pattern = (("number", "n"),)
        for number in (0, 1, 7, 9, 10, 42, 100, 101, 12345678, 99999999, 10000000):
            self.lets(pattern, (str(number),), [("n", number)])

    def test_number_with_needless_0(self):
        self.stops((("number", "n"),), ("01",), ("00",), ("007",), ("00000000",), ("00000001",))

    def test_number_with_other_signs(self):
        self.stops((("number", "n"),), ("1a",), ("a1",), ("-1",), ("-0",), ("-",), ("1-",), ("1-1",), ("a",), ("1e5",),
                   ("0x1",))

    def test_rest_of_no_word_and_of_some(self):
        self.lets((("rest", "r"),), (), [("r", ())])
        self.lets((("rest", "r"),), ("a",), [("r", ("a",))])
        self.lets((("rest", "r"),), ("a", "07", "a"), [("r", ("a", "07", "a"))])
        self.lets((("rest", "r"),), ("a",) * 8, [("r", ("a",) * 8)])
        self.lets((("word", "a"), ("rest", "r")), ("a",), [("r", ())])
        self.lets((("word", "a"), ("rest", "r")), ("a", "b", "c"), [("r", ("b", "c"))])

    def test_parts_ahead_of_a_rest(self):
        self.stops((("word", "a"), ("rest", "r")), (), ("b",), ("b", "a"))
        self.stops((("any", "n"), ("any", "m"), ("rest", "r")), (), ("a",))
        self.stops((("number", "n"), ("rest", "r")), ("a",), ("01", "2"))

    def test_an_address_too_short_or_too_long(self):
        self.stops((("word", "a"),), (), ("a", "a"), ("a", "b"))
        self.stops((("any", "n"), ("any", "m")), (), ("a",), ("a", "b", "c"), ("a",) * 8)
        self.stops((("number", "n"),), (), ("1", "2"))
        self.stops((("one", "n", ("a",)),), (), ("a", "a"))

    def test_the_empty_pattern(self):
        self.lets((), (), [])
        self.stops((), ("a",), ("a", "b"))

    def test_each_part_stands_for_the_word_at_its_place(self):
        pattern = (("any", "n"), ("word", "a"), ("number", "m"))
        self.lets(pattern, ("x", "a", "3"), [("n", "x"), ("m", 3)])
        self.stops(pattern, ("a", "x", "3"), ("x", "a", "y"), ("x", "b", "3"))

    def test_values_in_the_order_of_the_holes(self):
        self.lets(SHOP, ("shop", "12", "b", "q", "r", "s"),
                  [("id", 12), ("kind", "b"), ("x", "q"), ("more", ("r", "s"))])
        self.lets((("any", "z"), ("any", "a"), ("any", "m")), ("1", "2", "3"), [("z", "1"), ("a", "2"), ("m", "3")])

    def test_one_wrong_part_is_enough(self):
        self.stops(SHOP, ("chop", "12", "b", "q"), ("shop", "1x", "b", "q"), ("shop", "12", "c", "q"),
                   ("shop", "12", "b"))

    def test_lists_of_tuples(self):
        self.assertIs(type(matched(SHOP, ("shop", "1", "a", "q"))), list)
        for pair in matched(SHOP, ("shop", "1", "a", "q", "z")):
            self.assertIs(type(pair), tuple)
        self.assertIs(type(dict(matched(SHOP, ("shop", "1", "a", "q")))["more"]), tuple)

    def test_somewhat_beyond_the_bounds_nothing_is_refused(self):
        self.lets((("rest", "r"),), ("a",) * 9, [("r", ("a",) * 9)])
        self.lets((("word", "a"),) * 7, ("a",) * 7, [])
        self.lets((("any", "names"),), ("ninesigns",), [("names", "ninesigns")])
        self.lets((("number", "n"),), ("123456789",), [("n", 123456789)])
        self.stops((("number", "n"),), ("",))


class Building(unittest.TestCase):
    def makes(self, pattern, some, address):
        with self.subTest(pattern=pattern, some=some):
            self.assertEqual(built(pattern, some), address)
            self.assertIs(type(built(pattern, some)), tuple)

    def refuses(self, pattern, *somes):
        for some in somes:
            # A number of very many figures can't be shown, so what is handed in is not.
            with self.subTest(pattern=pattern), self.assertRaises(BadValues):
                built(pattern, some)

    def test_each_kind(self):
        self.makes((), [], ())
        self.makes((("word", "a"),), [], ("a",))
        self.makes((("any", "n"),), [("n", "x")], ("x",))
        self.makes((("number", "n"),), [("n", 42)], ("42",))
        self.makes((("one", "n", ("a", "b")),), [("n", "b")], ("b",))
        self.makes((("rest", "r"),), [("r", ())], ())
        self.makes((("rest", "r"),), [("r", ("x", "y"))], ("x", "y"))

    def test_all_kinds_in_the_order_of_the_holes(self):
        self.makes(SHOP, [("id", 0), ("kind", "a"), ("x", "07"), ("more", ("p", "q"))],
                   ("shop", "0", "a", "07", "p", "q"))

    def test_in_any_order(self):
        pairs = [("id", 3), ("kind", "b"), ("x", "y"), ("more", ("z",))]
        for order in itertools.permutations(pairs):
            self.makes(SHOP, list(order), ("shop", "3", "b", "y", "z"))

    def test_a_name_that_no_hole_has(self):
        self.refuses((), [("n", "a")])
        self.refuses((("word", "n"),), [("n", "n")])
        self.refuses((("any", "n"),), [("n", "a"), ("m", "a")], [("m", "a")], [("m", "a"), ("n", "a")],
                     [("n", "a"), ("", "a")])

    def test_a_name_told_twice(self):
        self.refuses((("any", "n"),), [("n", "a"), ("n", "a")], [("n", "a"), ("n", "b")])
        self.refuses((("any", "n"), ("any", "m")), [("n", "a"), ("n", "a")], [("n", "a"), ("m", "b"), ("n", "a")])

    def test_a_hole_without_a_value(self):
        for hole in (("any", "n"), ("number", "n"), ("one", "n", ("a",)), ("rest", "n")):
            self.refuses((hole,), [])
        self.refuses((("any", "n"), ("any", "m")), [("n", "a")], [("m", "a")])

    def test_any_and_a_value_of_another_kind(self):
        self.refuses((("any", "n"),), *[[("n", value)] for value in
                     (True, False, None, 0, 1, -1, [], ["a"], (), ("a",), [["a"]], (("a",),))])

    def test_one_and_a_value_of_another_kind(self):
        self.refuses((("one", "n", ("0", "1", "a")),), *[[("n", value)] for value in
                     (True, False, None, 0, 1, -1, [], ["a"], (), ("a",), ("0", "1", "a"), ["0", "1", "a"])])

    def test_number_and_a_value_of_another_kind(self):
        self.refuses((("number", "n"),), *[[("n", value)] for value in
                     (True, False, None, "", "0", "1", "a", [], [1], (), (1,), ("1",))])

    def test_rest_and_a_value_of_another_kind(self):
        self.refuses((("rest", "n"),), *[[("n", value)] for value in
                     (True, False, None, 0, 1, "", "a", "ab", [], ["a"], ["a", "b"])])

    def test_a_value_of_another_kind_within_a_rest(self):
        for odd in (True, False, None, 0, 1, [], ["a"], (), ("a",)):
            self.refuses((("rest", "n"),), [("n", (odd,))], [("n", ("a", odd))], [("n", (odd, "a"))])

    def test_any_and_a_word_that_is_none(self):
        self.refuses((("any", "n"),), *[[("n", value)] for value in
                     ("", "abcdefghi", "A", "a b", "a_b", "a/b", "/", "a\n", "\u00e4", "\u0663")])

    def test_a_rest_with_a_word_that_is_none(self):
        for word in ("", "abcdefghi", "A", "a b", "a_b", "a/b", "/", "a\n", "\u00e4", "\u0663"):
            self.refuses((("rest", "n"),), [("n", (word,))], [("n", ("a", word))], [("n", (word, "a"))])

    def test_one_and_a_word_that_is_none_of_its_words(self):
        self.refuses((("one", "n", ("a", "bc")),), *[[("n", value)] for value in ("b", "c", "d", "", "abc", "A", "n")])

    def test_a_number_below_0(self):
        self.refuses((("number", "n"),), [("n", -1)], [("n", -7)], [("n", -12345678)], [("n", -(10 ** 5000))])

    def test_numbers_of_up_to_8_figures(self):
        for number in (0, 1, 9, 10, 9999999, 10000000, 12345678, 99999999):
            self.makes((("number", "n"),), [("n", number)], (str(number),))

    def test_numbers_of_more_figures(self):
        self.refuses((("number", "n"),), [("n", 100000000)], [("n", 123456789)], [("n", 10 ** 20)], [("n", 10 ** 5000)])

    def test_8_words_and_9(self):
        self.makes((("rest", "r"),), [("r", ("a",) * 8)], ("a",) * 8)
        self.refuses((("rest", "r"),), [("r", ("a",) * 9)], [("r", ("a",) * 10)])
        ahead = (("word", "w"), ("any", "n"), ("number", "m"), ("one", "k", ("x",)), ("any", "l"))
        some = [("n", "a"), ("m", 1), ("k", "x"), ("l", "b")]
        self.makes(ahead + (("rest", "r"),), some + [("r", ("c", "d", "e"))], ("w", "a", "1", "x", "b", "c", "d", "e"))
        self.refuses(ahead + (("rest", "r"),), some + [("r", ("c", "d", "e", "f"))])

    def test_a_wrong_value_beside_good_ones(self):
        good = {"id": 3, "kind": "b", "x": "y", "more": ("z",)}
        for name, wrong in (("id", "3"), ("kind", "c"), ("x", ("y",)), ("more", "z")):
            self.refuses(SHOP, list({**good, name: wrong}.items()))

    def test_somewhat_beyond_the_bounds_nothing_else_is_refused(self):
        self.makes((("word", "a"),) * 8, [], ("a",) * 8)
        self.makes((("one", "kinds", ("a", "b", "c", "d", "e")),), [("kinds", "e")], ("e",))
        self.refuses((("word", "a"),) * 9, [])

    def test_the_refusal_is_a_route_error_and_a_value_error(self):
        for taken in (BadValues, RouteError, ValueError):
            with self.assertRaises(taken):
                built((("any", "n"),), [])


PARTS = [("word", "a"), ("word", "7"), ("any", "n"), ("any", "m"), ("number", "k"), ("one", "o", ("0", "a")),
         ("one", "p", ("7", "b"))]
WORDS = ["a", "b", "0", "7", "07", "-1"]


def small_patterns():
    for many in range(4):
        for parts in itertools.product(PARTS, repeat=many):
            names = [part[1] for part in parts if part[0] != "word"]
            if len(set(names)) == len(names):
                yield parts
                yield parts + (("rest", "r"),)


def values_for(part):
    if part[0] == "number":
        return [0, 7, 99999999]
    if part[0] == "one":
        return list(part[2])
    if part[0] == "rest":
        return [(), ("b",), ("07", "-1")]
    return ["a", "07"]


class ThereAndBack(unittest.TestCase):
    def test_what_was_matched_is_built_back(self):
        addresses = [address for many in range(5) for address in itertools.product(WORDS, repeat=many)]
        seen = 0
        for pattern in small_patterns():
            for address in addresses:
                values = matched(pattern, address)
                self.assertIs(does_match(pattern, address), values is not None)
                if values is not None:
                    seen += 1
                    self.assertEqual(built(pattern, values), address)
        self.assertGreater(seen, 1000)

    def test_what_is_built_is_matched_with_just_these_values(self):
        seen = 0
        for pattern in small_patterns():
            holes = [part for part in pattern if part[0] != "word"]
            for values in itertools.product(*[values_for(hole) for hole in holes]):
                some = [(hole[1], value) for hole, value in zip(holes, values)]
                address = built(pattern, some[::-1])
                self.assertTrue(is_address(address))
                self.assertEqual(matched(pattern, address), some)
                seen += 1
        self.assertGreater(seen, 1000)


class HandedInAndTold(unittest.TestCase):
    def test_what_is_handed_in_is_not_changed(self):
        for some in ([("more", ("z",)), ("x", "y"), ("kind", "b"), ("id", 3)], [("id", 3), ("id", 3)], [("n", ["a"])],
                     [("id", [1]), ("kind", "b"), ("x", "y"), ("more", ["z"])]):
            before = copy.deepcopy(some)
            try:
                built(SHOP, some)
            except BadValues:
                pass
            self.assertEqual(some, before)

    def test_a_told_list_is_its_getters_own(self):
        address = ("shop", "1", "a", "q", "z")
        for pattern, address in ((SHOP, address), ((), ()), ((("word", "a"),), ("a",))):
            told = matched(pattern, address)
            before = list(told)
            told.append(("n", "a"))
            told[0] = None
            self.assertEqual(matched(pattern, address), before)
            self.assertIsNot(matched(pattern, address), matched(pattern, address))

    def test_a_list_told_may_be_handed_in_and_changed_then(self):
        some = [("n", "a")]
        self.assertEqual(built((("any", "n"),), some), ("a",))
        some[0] = ("n", "b")
        self.assertEqual(built((("any", "n"),), some), ("b",))

    def test_asked_again_the_same_is_told(self):
        for _ in range(3):
            self.assertEqual(matched(SHOP, ("shop", "1", "a", "q")),
                             [("id", 1), ("kind", "a"), ("x", "q"), ("more", ())])
            self.assertIs(matched(SHOP, ("shop",)), None)
            self.assertEqual(built((("any", "n"),), [("n", "a")]), ("a",))
            with self.assertRaises(BadValues):
                built((("any", "n"),), [("n", "A")])

    def test_a_refusal_changes_nothing(self):
        some = [("n", "a"), ("n", "b")]
        with self.assertRaises(BadValues):
            built((("any", "n"),), some)
        self.assertEqual(some, [("n", "a"), ("n", "b")])
        self.assertEqual(built((("any", "n"),), some[:1]), ("a",))


if __name__ == "__main__":
    unittest.main()
