"""[1.1], [1.2] and [0.3]: what is an address, a pattern, a table, and what is none."""

import copy
import unittest

from looking import ODD_THINGS, Asking
from routeboard.patterns import is_address, is_pattern, is_table

ASKED = (is_address, is_pattern, is_table)


class Words(Asking):
    """A word, where words stand: in an address, a word part, and the words of one."""

    def all_places(self, say, *words):
        for word in words:
            say(is_address, (word,), ("a", word, "b"))
            say(is_pattern, (("word", word),), (("one", "n", (word,)),))
            say(is_table, (("r", (("word", word),)),))

    def test_words_of_one_sign(self):
        self.all_places(self.yes, *"abcdefghijklmnopqrstuvwxyz0123456789-")

    def test_words_of_more_signs(self):
        self.all_places(self.yes, "az", "09", "--", "-1", "a-b", "1a", "01", "shop", "abcdefg", "abcdef12", "1234567-")

    def test_no_sign_and_nine_signs(self):
        self.all_places(self.no, "", "abcdefghi", "123456789", "---------")

    def test_signs_that_no_word_has(self):
        self.all_places(self.no, "A", "aB", "Z", " ", "a b", " a", "a ", "_", "a_b", "/", "a/b", "a.b", ":a", "*", "\n")

    def test_a_line_feed_at_the_end(self):
        self.all_places(self.no, "a\n", "1\n")

    def test_signs_just_beside_the_letters_and_figures(self):
        self.all_places(self.no, "`", "{", "/", ":", ",", ".")

    def test_letters_and_figures_of_other_scripts(self):
        self.all_places(self.no, "\u00e4", "\u00df", "\u03b1", "\u0430", "\u0663", "\u00b2", "\uff11", "\uff41",
                        "a\u0301", "\u2010", "\u2212", "\u017f", "\U0001d7ce")

    def test_things_that_are_no_text(self):
        self.all_places(self.no, None, True, False, 0, 1, 7, (), ("a",), [], ["a"])


class Addresses(Asking):
    def test_of_none_to_eight_words(self):
        for many in range(9):
            self.yes(is_address, ("a",) * many)

    def test_of_more_words(self):
        self.no(is_address, ("a",) * 9, ("a",) * 10)

    def test_one_wrong_word_anywhere(self):
        for at in range(8):
            words = ["a"] * 8
            words[at] = "A"
            self.no(is_address, tuple(words))

    def test_a_list_or_a_text_is_none(self):
        self.no(is_address, [], ["a"], ["a", "b"], "", "a", "ab", "/a")

    def test_a_word_may_stand_twice_and_in_any_order(self):
        self.yes(is_address, ("b", "a", "b", "a"))


class Names(Asking):
    """A name, where names stand: at each hole, and as a label."""

    def all_places(self, say, *names):
        for name in names:
            say(is_pattern, (("any", name),), (("number", name),), (("one", name, ("a",)),), (("rest", name),))
            say(is_table, ((name, ()),))

    def test_names_of_one_letter(self):
        self.all_places(self.yes, *"abcdefghijklmnopqrstuvwxyz")

    def test_names_of_two_to_four_letters(self):
        self.all_places(self.yes, "az", "abc", "word", "any", "rest", "zzzz")

    def test_no_letter_and_five_letters(self):
        self.all_places(self.no, "", "abcde", "number")

    def test_figures_and_other_signs(self):
        self.all_places(self.no, "1", "a1", "1a", "-", "a-b", "A", "aB", "a b", " ", "_", "a_", "a\n", "`", "{")

    def test_letters_of_other_scripts(self):
        self.all_places(self.no, "\u00e4", "\u00df", "\u03b1", "\u0430", "\uff41", "\u017f")

    def test_things_that_are_no_text(self):
        self.all_places(self.no, None, True, False, 0, 1, (), ("a",), [], ["a"])


class Patterns(Asking):
    def test_the_empty_pattern(self):
        self.yes(is_pattern, ())

    def test_each_kind_of_part(self):
        self.yes(is_pattern, (("word", "a"),), (("any", "a"),), (("number", "a"),), (("one", "a", ("b",)),),
                 (("rest", "a"),))

    def test_all_kinds_together(self):
        self.yes(is_pattern, (("word", "a"), ("any", "b"), ("number", "c"), ("one", "d", ("a", "b")), ("rest", "e")))

    def test_of_none_to_six_parts(self):
        for many in range(7):
            self.yes(is_pattern, (("word", "a"),) * many)
        self.yes(is_pattern, (("word", "a"),) * 5 + (("rest", "r"),))

    def test_of_seven_parts_and_more(self):
        self.no(is_pattern, (("word", "a"),) * 7, (("word", "a"),) * 8, (("word", "a"),) * 6 + (("rest", "r"),))

    def test_a_list_is_none(self):
        self.no(is_pattern, [], [("word", "a")], [("any", "a"), ("rest", "b")])

    def test_parts_that_are_lists(self):
        self.no(is_pattern, (["word", "a"],), (["any", "a"],), (["number", "a"],), (["one", "a", ("b",)],),
                (["rest", "a"],))

    def test_parts_that_are_too_short(self):
        self.no(is_pattern, ((),), (("word",),), (("any",),), (("number",),), (("one",),), (("one", "a"),),
                (("rest",),))

    def test_parts_that_are_too_long(self):
        self.no(is_pattern, (("word", "a", "b"),), (("word", "a", ("b",)),), (("any", "a", "b"),),
                (("any", "a", ("b",)),), (("number", "a", 1),), (("number", "a", ("b",)),),
                (("one", "a", ("b",), "c"),), (("rest", "a", ("b",)),))

    def test_kinds_that_there_are_not(self):
        self.no(is_pattern, (("", "a"),), (("Word", "a"),), (("words", "a"),), (("all", "a"),), (("wor", "a"),),
                (("end", "a"),), ((None, "a"),), ((True, "a"),), ((0, "a"),), (((), "a"),), (([], "a"),),
                ((["word"], "a"),), ((("any",), "a"),), (("two", "a", ("b",)),))

    def test_parts_that_are_texts_or_other_things(self):
        self.no(is_pattern, ("a",), ("ab",), ("one",), (None,), (True,), (1,), (("word", "a"), "b"))

    def test_one_wrong_part_anywhere(self):
        for at in range(6):
            parts = [("word", "a")] * 6
            parts[at] = ("word", "A")
            self.no(is_pattern, tuple(parts))

    def test_one_with_one_to_four_words(self):
        for many in range(1, 5):
            self.yes(is_pattern, (("one", "n", ("a", "b", "c", "d")[:many]),))

    def test_one_with_no_word_and_with_five(self):
        self.no(is_pattern, (("one", "n", ()),), (("one", "n", ("a", "b", "c", "d", "e")),))

    def test_one_whose_words_do_not_rise(self):
        self.no(is_pattern, (("one", "n", ("b", "a")),), (("one", "n", ("a", "c", "b")),),
                (("one", "n", ("b", "c", "a")),), (("one", "n", ("a", "b", "d", "c")),))

    def test_one_with_a_word_twice(self):
        self.no(is_pattern, (("one", "n", ("a", "a")),), (("one", "n", ("a", "b", "b")),),
                (("one", "n", ("a", "b", "a")),))

    def test_rising_is_by_pythons_order_of_texts(self):
        self.yes(is_pattern, (("one", "n", ("-", "10", "9", "a")),), (("one", "n", ("a", "aa", "ab", "b")),))
        self.no(is_pattern, (("one", "n", ("9", "10")),), (("one", "n", ("b", "aa")),), (("one", "n", ("a", "1")),))

    def test_one_whose_words_are_no_tuple_of_words(self):
        self.no(is_pattern, (("one", "n", ["a"]),), (("one", "n", ["a", "b"]),), (("one", "n", "a"),),
                (("one", "n", "ab"),), (("one", "n", None),), (("one", "n", True),), (("one", "n", 1),),
                (("one", "n", (1,)),), (("one", "n", (1, 2)),), (("one", "n", ("a", 1)),), (("one", "n", (None, "a")),),
                (("one", "n", (("a",),)),), (("one", "n", (["a"], ["b"])),), (("one", "n", ("a", "B")),))

    def test_a_rest_is_only_the_last_part(self):
        self.yes(is_pattern, (("rest", "r"),), (("word", "a"), ("rest", "r")), (("any", "a"), ("rest", "r")))
        self.no(is_pattern, (("rest", "r"), ("word", "a")), (("rest", "r"), ("any", "a")),
                (("word", "a"), ("rest", "r"), ("word", "a")), (("rest", "r"), ("rest", "s")))

    def test_one_name_at_two_holes(self):
        holes = [("any", "n"), ("number", "n"), ("one", "n", ("a",))]
        for hole in holes:
            for other in holes + [("rest", "n")]:
                self.no(is_pattern, (hole, other), (hole, ("word", "a"), other), (("any", "m"), hole, other))

    def test_other_names_at_holes_of_one_kind(self):
        self.yes(is_pattern, (("any", "a"), ("any", "b"), ("any", "aa")), (("number", "a"), ("number", "b")),
                 (("one", "a", ("x",)), ("one", "b", ("x",))))

    def test_a_word_may_be_a_holes_name_and_stand_twice(self):
        self.yes(is_pattern, (("word", "n"), ("any", "n")), (("word", "n"), ("word", "n")),
                 (("any", "n"), ("word", "n")), (("one", "n", ("n",)),))


class Tables(Asking):
    def test_of_none_to_eight_rows(self):
        for many in range(9):
            self.yes(is_table, tuple((label, ()) for label in "abcdefgh"[:many]))

    def test_of_nine_rows_and_more(self):
        self.no(is_table, tuple((label, ()) for label in "abcdefghi"), tuple((label, ()) for label in "abcdefghij"))

    def test_ordinary_rows(self):
        self.yes(is_table, (("home", ()), ("shop", (("word", "shop"), ("number", "id"))), ("all", (("rest", "r"),))))

    def test_one_pattern_in_two_rows(self):
        self.yes(is_table, (("a", (("any", "n"),)), ("b", (("any", "n"),))))

    def test_a_label_twice(self):
        self.no(is_table, (("a", ()), ("a", ())), (("a", ()), ("a", (("any", "n"),))),
                (("a", ()), ("b", ()), ("a", ())))

    def test_a_list_is_none(self):
        self.no(is_table, [], [("a", ())])

    def test_rows_that_are_lists(self):
        self.no(is_table, (["a", ()],), (("a", ()), ["b", ()]))

    def test_rows_too_short_or_too_long(self):
        self.no(is_table, ((),), (("a",),), (("a", (), ()),), (("a", (), None),), (("a", (("word", "b"),), "c"),))

    def test_rows_turned_about(self):
        self.no(is_table, (((), "a"),), (((("word", "b"),), "a"),))

    def test_rows_without_a_pattern(self):
        self.no(is_table, (("a", None),), (("a", []),), (("a", "b"),), (("a", ("b",)),), (("a", ("word", "b")),),
                (("a", [("word", "b")]),), (("a", (["word", "b"],)),), (("a", (("word", "B"),)),),
                (("a", (("rest", "r"), ("word", "b"))),), (("a", (("any", "n"), ("any", "n"))),),
                (("a", (("word", "b"),) * 7),))

    def test_one_wrong_row_anywhere(self):
        for at in range(8):
            rows = [(label, ()) for label in "abcdefgh"]
            rows[at] = ("x1", ())
            self.no(is_table, tuple(rows))


class AnyThing(Asking):
    def test_things_that_are_none_of_all(self):
        for thing in ODD_THINGS:
            for ask in ASKED:
                self.no(ask, thing)

    def test_the_empty_tuple_is_all_three(self):
        for ask in ASKED:
            self.yes(ask, ())

    def test_odd_things_within_good_ones(self):
        for thing in ODD_THINGS:
            if isinstance(thing, str):
                continue
            self.no(is_address, (thing,), ("a", thing))
            self.no(is_pattern, (thing,), (("word", "a"), thing), (("any", thing),), (("word", thing),),
                    (("one", "n", thing),), (("one", "n", (thing,)),), (("one", "n", ("a", thing)),), ((thing, "a"),))
            self.no(is_table, (thing,), ((thing, ()),), (("a", thing),), (("a", (thing,)),), (("a", ()), thing))

    def test_truths_are_no_words_and_no_names(self):
        self.no(is_address, (True,), (False,))
        self.no(is_pattern, (("word", True),), (("any", False),))

    def test_what_is_handed_in_is_not_changed(self):
        for thing in ODD_THINGS + [["a", ["b"]], (["word", "a"],), (["a", [("word", "b")]],)]:
            before = copy.deepcopy(thing)
            for ask in ASKED:
                ask(thing)
            self.assertEqual(thing, before)

    def test_asked_again_the_same_is_told(self):
        for thing in ODD_THINGS + [(), ("a",), (("word", "a"),), (("a", ()),)]:
            for ask in ASKED:
                self.assertIs(ask(thing), ask(thing))


if __name__ == "__main__":
    unittest.main()
