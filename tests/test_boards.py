"""[6.1], [6.2], [0.2] (f) and [0.3]: boards, whose rows come and go, and how many patterns they look at."""

import copy
import random
import unittest

from looking import ADDRESSES, LABELS, leads, refuses, small_patterns
from routeboard.boards import Board
from routeboard.errors import NoRow, Taken, TooMany
from routeboard.patterns import is_table
from routeboard.tables import first, led

A, B, C = (("word", "a"),), (("number", "n"),), (("any", "n"), ("rest", "r"))
FAR = (3, 4, 8, 9, 100, 10 ** 9)


def board_of(*rows):
    board = Board()
    for at, (label, pattern) in enumerate(rows):
        board.add(label, pattern, at)
    return board


def full_board(*labels):
    return board_of(*[(label, A) for label in labels or "abcdefgh"])


def labels_of(board):
    return "".join(label for label, _ in board.table())


def refuse_all(case, board):
    """Some steps that are refused."""
    label = board.table()[0][0] if board.table() else None
    refuses(case, NoRow, board.drop, "none")
    refuses(case, NoRow, board.move, "none", 0)
    if label is not None:
        refuses(case, Taken, board.add, label, A, 0)


class Adding(unittest.TestCase):
    def test_it_begins_without_rows(self):
        self.assertEqual(Board().table(), ())
        self.assertIs(type(Board().table()), tuple)
        self.assertIsNone(Board().find(()))
        self.assertIsNone(Board().holes(("a",)))

    def test_ahead_of_all_in_the_middle_and_behind_all(self):
        for at, wanted in ((0, "xabc"), (1, "axbc"), (2, "abxc"), (3, "abcx")):
            board = board_of(("a", A), ("b", B), ("c", C))
            self.assertIsNone(board.add("x", (), at))
            self.assertEqual(labels_of(board), wanted)
            self.assertEqual(board.table()[at], ("x", ()))
            self.assertTrue(is_table(board.table()))

    def test_far_beyond_is_behind_all(self):
        for at in FAR:
            board = board_of(("a", A), ("b", B), ("c", C))
            self.assertIsNone(board.add("x", (), at))
            self.assertEqual(board.table(), (("a", A), ("b", B), ("c", C), ("x", ())))

    def test_to_a_board_without_rows(self):
        for at in (0, 1, 100):
            board = Board()
            self.assertIsNone(board.add("long", C, at))
            self.assertEqual(board.table(), (("long", C),))

    def test_below_0_is_behind_all(self):
        board = board_of(("a", A), ("b", B))
        board.add("x", (), -1)
        self.assertEqual(labels_of(board), "abx")
        board.move("a", -2)
        self.assertEqual(labels_of(board), "bxa")

    def test_a_label_that_a_row_has(self):
        board = board_of(("a", A), ("b", B))
        before = board.table()
        for label in "ab":
            for pattern in (A, B, ()):
                for at in (0, 1, 2, 9):
                    refuses(self, Taken, board.add, label, pattern, at)
                    self.assertEqual(board.table(), before)

    def test_the_eighth_row_and_the_ninth(self):
        board = full_board(*"abcdefg")
        self.assertIsNone(board.add("h", A, 3))
        self.assertEqual(labels_of(board), "abchdefg")
        for at in (0, 4, 8, 9):
            refuses(self, TooMany, board.add, "i", B, at)
            self.assertEqual(labels_of(board), "abchdefg")

    def test_taken_ahead_of_too_many(self):
        board = full_board()
        for label in "adh":
            refuses(self, Taken, board.add, label, A, 0)
        refuses(self, TooMany, board.add, "i", A, 0)

    def test_a_label_that_was_dropped_is_free(self):
        board = full_board()
        board.drop("c")
        self.assertIsNone(board.add("c", B, 0))
        self.assertEqual(labels_of(board), "cabdefgh")
        refuses(self, TooMany, board.add, "x", A, 0)

    def test_somewhat_beyond_the_bounds_nothing_else_is_refused(self):
        board = board_of(("labels", (("word", "ninesigns"),) * 7))
        self.assertEqual(board.find(("ninesigns",) * 7), "labels")
        self.assertIsNone(board.find(("a",) * 9))


class DroppingAndMoving(unittest.TestCase):
    def test_drop_of_each(self):
        for label, wanted in (("a", "bcd"), ("b", "acd"), ("d", "abc")):
            board = full_board(*"abcd")
            self.assertIsNone(board.drop(label))
            self.assertEqual(labels_of(board), wanted)

    def test_drop_of_the_last_one_there_is(self):
        board = board_of(("a", A))
        self.assertIsNone(board.drop("a"))
        self.assertEqual(board.table(), ())
        refuses(self, NoRow, board.drop, "a")

    def test_drop_of_none(self):
        refuses(self, NoRow, Board().drop, "a")
        board = full_board(*"abc")
        for label in ("d", "ab", "aa"):
            refuses(self, NoRow, board.drop, label)
            self.assertEqual(labels_of(board), "abc")

    def test_move(self):
        for label, at, wanted in (
                ("a", 0, "abcd"), ("a", 1, "bacd"), ("a", 2, "bcad"), ("a", 3, "bcda"), ("a", 4, "bcda"),
                ("b", 0, "bacd"), ("b", 1, "abcd"), ("b", 2, "acbd"), ("b", 3, "acdb"),
                ("d", 0, "dabc"), ("d", 1, "adbc"), ("d", 2, "abdc"), ("d", 3, "abcd"), ("d", 4, "abcd")):
            with self.subTest(label=label, at=at):
                board = full_board(*"abcd")
                self.assertIsNone(board.move(label, at))
                self.assertEqual(labels_of(board), wanted)

    def test_move_far_beyond_is_behind_all(self):
        for at in FAR:
            board = board_of(("a", A), ("b", B), ("c", C))
            self.assertIsNone(board.move("b", at))
            self.assertEqual(board.table(), (("a", A), ("c", C), ("b", B)))

    def test_move_of_the_only_one(self):
        for at in (0, 1, 9):
            board = board_of(("a", C))
            self.assertIsNone(board.move("a", at))
            self.assertEqual(board.table(), (("a", C),))

    def test_move_in_a_full_board(self):
        board = full_board()
        self.assertIsNone(board.move("h", 0))
        self.assertEqual(labels_of(board), "habcdefg")

    def test_move_of_none(self):
        refuses(self, NoRow, Board().move, "a", 0)
        board = full_board(*"abc")
        for at in (0, 1, 9):
            refuses(self, NoRow, board.move, "d", at)
            self.assertEqual(labels_of(board), "abc")


class Finding(unittest.TestCase):
    def holds(self, board):
        """Asked by either one first, both tell what the rows tell."""
        for number, address in enumerate(((), ("a",), ("7",), ("b",), ("a", "b"), ("b", "7", "c"))):
            asks = [(board.find, first), (board.holes, led)]
            for ask, plain in asks[::-1] if number % 2 else asks:
                self.assertEqual(ask(address), plain(board.table(), address))

    def test_behind_each_change(self):
        board = Board()
        self.holds(board)
        for change, handed in (
                (board.add, ("c", C, 0)), (board.add, ("a", A, 1)), (board.add, ("b", B, 1)), (board.move, ("a", 0)),
                (board.move, ("c", 9)), (board.drop, ("a",)), (board.add, ("none", (), 0)), (board.drop, ("c",)),
                (board.add, ("a", C, 9)), (board.drop, ("b",)), (board.drop, ("none",)), (board.drop, ("a",))):
            change(*handed)
            self.holds(board)
            self.holds(board)

    def test_one_address_behind_each_change(self):
        board = board_of(("c", C))
        self.assertEqual(board.find(("7",)), "c")
        self.assertEqual(board.holes(("7",)), ("c", [("n", "7"), ("r", ())]))
        board.add("b", B, 0)
        self.assertEqual(board.find(("7",)), "b")
        self.assertEqual(board.holes(("7",)), ("b", [("n", 7)]))
        board.move("b", 1)
        self.assertEqual(board.find(("7",)), "c")
        board.drop("c")
        self.assertEqual(board.holes(("7",)), ("b", [("n", 7)]))
        board.drop("b")
        self.assertIsNone(board.find(("7",)))
        self.assertIsNone(board.holes(("7",)))
        board.add("b", C, 0)
        self.assertEqual(board.holes(("7",)), ("b", [("n", "7"), ("r", ())]))

    def test_holes_of_a_pattern_without_any(self):
        board = board_of(("a", A), ("e", ()))
        self.assertEqual(board.holes(("a",)), ("a", []))
        self.assertEqual(board.holes(()), ("e", []))
        self.assertIs(type(board.holes(())), tuple)
        self.assertIs(type(board.holes(())[1]), list)


class Looking(unittest.TestCase):
    def looks(self, board, many, ask, address):
        before = board.looked()
        ask(address)
        self.assertEqual(board.looked() - before, many)

    def test_at_the_start(self):
        self.assertEqual(Board().looked(), 0)
        self.assertEqual(full_board().looked(), 0)

    def test_a_new_address_by_either_one(self):
        for name in ("find", "holes"):
            board = board_of(("a", A), ("b", B), ("c", C))
            ask = getattr(board, name)
            self.looks(board, 1, ask, ("a",))
            self.looks(board, 2, ask, ("7",))
            self.looks(board, 3, ask, ("b",))
            self.looks(board, 3, ask, ())
            self.assertEqual(board.looked(), 9)

    def test_asked_again_by_either_one(self):
        for names in (("find", "holes"), ("holes", "find"), ("find", "find"), ("holes", "holes")):
            board = board_of(("a", A), ("b", B), ("c", C))
            for address, many in ((("7",), 2), ((), 3), (("b", "c"), 3)):
                self.looks(board, many, getattr(board, names[0]), address)
                self.looks(board, 0, getattr(board, names[1]), tuple(list(address)))
                self.looks(board, 0, getattr(board, names[0]), address)

    def test_several_addresses_asked_again(self):
        board = board_of(("a", A), ("b", B))
        for address in (("a",), ("7",), ("x",), ()):
            board.find(address)
        self.assertEqual(board.looked(), 1 + 2 + 2 + 2)
        for address in ((), ("x",), ("7",), ("a",)):
            board.holes(address)
        self.assertEqual(board.looked(), 7)

    def test_behind_each_change(self):
        for change, handed, many in (
                ("add", ("x", (), 0), 3), ("add", ("x", (), 9), 2), ("drop", ("a",), 1), ("drop", ("c",), 2),
                ("move", ("b", 0), 1), ("move", ("b", 2), 2), ("move", ("a", 0), 2), ("move", ("c", 9), 2)):
            for name in ("find", "holes"):
                board = board_of(("a", A), ("b", B), ("c", C))
                self.looks(board, 2, board.find, ("7",))
                getattr(board, change)(*handed)
                self.assertEqual(board.looked(), 2)
                with self.subTest(change=change, handed=handed):
                    self.looks(board, many, getattr(board, name), ("7",))
                    self.looks(board, 0, board.find, ("7",))

    def test_behind_a_refused_change(self):
        board = full_board()
        board.drop("h")
        board.add("bb", B, 7)
        self.looks(board, 8, board.find, ("7",))
        self.looks(board, 8, board.holes, ("x",))
        refuse_all(self, board)
        refuses(self, TooMany, board.add, "new", (("any", "n"),), 0)
        self.assertEqual(board.looked(), 16)
        self.looks(board, 0, board.holes, ("7",))
        self.looks(board, 0, board.find, ("x",))

    def test_an_address_that_no_row_matches(self):
        board = full_board()
        self.looks(board, 8, board.find, ("b",))
        self.looks(board, 0, board.holes, ("b",))
        self.looks(board, 8, board.holes, ())
        self.looks(board, 0, board.find, ())

    def test_a_board_without_rows(self):
        board = Board()
        self.looks(board, 0, board.find, ("b",))
        self.looks(board, 0, board.holes, ())
        board.add("a", A, 0)
        self.looks(board, 1, board.find, ("b",))
        board.drop("a")
        self.looks(board, 0, board.find, ("b",))
        self.assertEqual(board.looked(), 1)

    def test_table_and_looked_look_at_nothing(self):
        board = board_of(("a", A), ("b", B))
        for _ in range(3):
            board.table()
            self.assertEqual(board.looked(), 0)
        board.find(("7",))
        for _ in range(3):
            board.table()
            self.assertEqual(board.looked(), 2)
        # Nor do they make what was asked new.
        self.looks(board, 0, board.find, ("7",))


class AtRandom(unittest.TestCase):
    """Many steps, held against rows in a list, the addresses asked, and a plain count."""

    def setUp(self):
        self.chance = random.Random(61)
        self.patterns = small_patterns()

    def change(self, board, rows):
        """A step on both; whether it was not refused."""
        label, at = self.chance.choice(LABELS + ("x", "y")), self.chance.randrange(12)
        there = [row for row in rows if row[0] == label]
        step = self.chance.choice(("add", "add", "drop", "move"))
        if step == "add":
            row = (label, self.chance.choice(self.patterns))
            if there or len(rows) == 8:
                refuses(self, Taken if there else TooMany, board.add, *row, at)
                return False
            self.assertIsNone(board.add(*row, at))
            rows.insert(at, row)
            return True
        handed = (label,) if step == "drop" else (label, at)
        if not there:
            refuses(self, NoRow, getattr(board, step), *handed)
            return False
        self.assertIsNone(getattr(board, step)(*handed))
        rows.remove(there[0])
        if step == "move":
            rows.insert(at, there[0])
        return True

    def test_many_steps(self):
        for _ in range(20):
            board, rows, asked, looked = Board(), [], set(), 0
            for _ in range(60):
                if self.change(board, rows):
                    asked.clear()
                self.assertEqual(board.table(), tuple(rows))
                for address in self.chance.choices(ADDRESSES[:31], k=6):
                    label = leads(rows, address)
                    if address not in asked:
                        looked += [row[0] for row in rows].index(label) + 1 if label else len(rows)
                    asked.add(address)
                    if self.chance.randrange(2):
                        self.assertEqual(board.find(address), label)
                    else:
                        self.assertEqual(board.holes(address), led(tuple(rows), address))
                    self.assertEqual(board.looked(), looked)


class HandedInAndTold(unittest.TestCase):
    def test_a_told_table_stays_when_the_board_changes(self):
        board = board_of(("a", A), ("b", B))
        told = board.table()
        board.add("c", C, 0)
        later = board.table()
        board.move("a", 9)
        board.drop("b")
        self.assertEqual(told, (("a", A), ("b", B)))
        self.assertEqual(later, (("c", C), ("a", A), ("b", B)))
        self.assertEqual(board.table(), (("c", C), ("a", A)))

    def test_two_boards_do_not_change_each_other(self):
        one, other = Board(), Board()
        one.add("a", A, 0)
        self.assertEqual(other.table(), ())
        other.add("b", C, 0)
        self.assertEqual(one.find(("a",)), "a")
        self.assertEqual(other.find(("a",)), "b")
        self.assertEqual((one.looked(), other.looked()), (1, 1))
        one.find(("7",))
        self.assertEqual((one.looked(), other.looked()), (2, 1))
        other.find(("7",))
        other.drop("b")
        self.assertEqual(one.table(), (("a", A),))
        one.find(("7",))
        self.assertEqual((one.looked(), other.looked()), (2, 2))

    def test_a_refused_step_changes_nothing(self):
        board = full_board()
        board.find(("x",))
        before = board.table()
        refuse_all(self, board)
        refuses(self, TooMany, board.add, "x", (("any", "n"),), 0)
        self.assertEqual(board.table(), before)
        self.assertIsNone(board.find(("x",)))
        self.assertEqual(board.holes(("a",)), ("a", []))

    def test_a_told_list_is_its_getters_own(self):
        board = board_of(("c", C), ("e", ()))
        for address, wanted in ((("a", "b"), ("c", [("n", "a"), ("r", ("b",))])), ((), ("e", []))):
            told = board.holes(address)
            told[1].append(("x", "y"))
            self.assertEqual(board.holes(address), wanted)
            board.holes(address)[1].clear()
            self.assertEqual(board.holes(address), wanted)
            self.assertIsNot(board.holes(address)[1], board.holes(address)[1])
            self.assertEqual(board.find(address), wanted[0])

    def test_what_is_handed_in_is_not_changed(self):
        pattern, address = (("any", "n"), ("rest", "r")), ("a", "b")
        before = copy.deepcopy((pattern, address))
        board = board_of(("c", pattern))
        board.find(address)
        board.holes(address)
        board.move("c", 5)
        board.drop("c")
        self.assertEqual((pattern, address), before)

    def test_asked_again_the_same_is_told(self):
        board = board_of(("a", A), ("c", C))
        for _ in range(3):
            self.assertEqual(board.find(("7", "x")), "c")
            self.assertEqual(board.holes(("7", "x")), ("c", [("n", "7"), ("r", ("x",))]))
            self.assertIsNone(board.find(()))
            self.assertEqual(board.table(), (("a", A), ("c", C)))


if __name__ == "__main__":
    unittest.main()
