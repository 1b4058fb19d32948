"""Points 116 to 119: book.py."""

import inspect
import random
import unittest

from helpers import Case, spoil
from wayfill.book import Book, audit, compare_books
from wayfill.errors import BadEntry, BadLetters, BadMove, BadWeights, NothingToUndo, TooMany, Unknown, WayfillError
from wayfill.moves import do_moves, leads
from wayfill.rules import Rules

ON, BACK = (1, "R1", 0), (-1, "R1", 0)
R1, R2 = ("rule", "R1", "ba", "ab"), ("rule", "R2", "b", "a")
ONE, THREE = ("way", "ONE", ("ba", (ON,))), ("way", "THREE", ("ba", (ON, BACK, ON)))
SQUARE = ("square", "SQ", ("ba", (ON,)), ("ba", (ON, BACK, ON)))
MOVES = ("moves", "M", "THREE", [("drop", 1)], "ONE")
SWAP = ("moves", "SW", "ONE", [("swap", 0, "SQ", 0, 0, 1)], "THREE")
FULL = [R1, ONE, THREE, SQUARE, MOVES, SWAP, R2]
NAMES = ["R1", "ONE", "THREE", "SQ", "M", "SW", "R2"]


def book_of(rows, letters="ab", weights=None):
    """A book with the rows."""
    book = Book(letters, weights=weights)
    for row in rows:
        book.put(row)
    return book


def state(book):
    """All that a book tells."""
    names = book.names
    return (book.letters, book.weights, book.rows, book.rules, book.squares, names, len(book), list(book),
            [[tell(book, call, name) for call in ("way_of", "square_of", "moves_of")] for name in names])


def tell(book, call, name):
    """What the book tells of the name, or None."""
    try:
        return getattr(book, call)(name)
    except Unknown:
        return None


class Booked(Case):

    def takes(self, rows, row):
        """The book with the rows files the row as the last one."""
        book = book_of(rows)
        self.assertIsNone(book.put(row))
        self.assertEqual(book.rows, rows + [row])
        self.assertIsNone(audit("ab", rows + [row]))
        return book

    def denies(self, rows, row, letters="ab"):
        """The book with the rows refuses the row, and stays as it was."""
        book = book_of(rows, letters)
        kept = state(book)
        self.refuses(BadEntry(len(rows), row[1]), book.put, row)
        self.assertEqual(state(book), kept)
        self.refuses(BadEntry(len(rows), row[1]), book.put_all, [row])
        self.assertEqual(state(book), kept)
        self.assertEqual(audit(letters, rows + [row, row]), len(rows))
        self.refuses(BadEntry(len(rows), row[1]), Book.replay, letters, rows + [row])


class TestEmpty(Booked):

    def test_headings(self):
        self.assertEqual(str(inspect.signature(Book)), "(letters, *, weights=None)")
        self.assertEqual(str(inspect.signature(Book.replay)), "(letters, rows, *, weights=None)")
        self.assertEqual(str(inspect.signature(audit)), "(letters, rows, *, weights=None)")
        self.assertEqual(str(inspect.signature(compare_books)), "(one, other)")
        headings = {"put": "(self, row)", "put_all": "(self, rows)", "undo": "(self)", "twin": "(self)",
                    "way_of": "(self, name)", "square_of": "(self, name)", "moves_of": "(self, name)",
                    "link": "(self, start, goal)"}
        for name, heading in headings.items():
            self.assertEqual(str(inspect.signature(vars(Book)[name])), heading)
        for name in ["letters", "weights", "rows", "rules", "squares", "names"]:
            self.assertIsInstance(vars(Book)[name], property)
        self.assertIsInstance(vars(Book)["replay"], staticmethod)
        for name in ["__len__", "__iter__", "__contains__", "__eq__"]:
            self.assertIn(name, vars(Book))

    def test_an_empty_book(self):
        book = Book("ba")
        self.assertEqual(state(book), ("ba", [1, 1], [], Rules("ba", []), [], [], 0, [], []))
        self.assertEqual(Book(letters="ba", weights=[3, 4]).weights, [3, 4])
        self.assertEqual(Book("ba", weights=[3, 4]).rules, Rules("ba", [], weights=[3, 4]))

    def test_errors(self):
        for letters in ["", "aa", "abcdefg", "A"]:
            self.refuses(BadLetters(letters), Book, letters, weights=[0])
            self.refuses(BadLetters(letters), Book.replay, letters, [("?", "?")], weights=[0])
            self.refuses(BadLetters(letters), audit, letters, [("?", "?")], weights=[0])
        for weights in [[], [1], [1, 2, 3], [0, 1], [1, 100]]:
            self.refuses(BadWeights(), Book, "ab", weights=weights)
            self.refuses(BadWeights(), Book.replay, "ab", [("?", "?")], weights=weights)
            self.refuses(BadWeights(), audit, "ab", [("?", "?")], weights=weights)


class TestRules(Booked):

    def test_accepted(self):
        book = self.takes([R2], R1)
        self.assertEqual(book.rules, Rules("ab", [R2[1:], R1[1:]]))
        self.takes([], ("rule", "A2345678", "a" * 8, ""))
        self.takes([R1], ("rule", "R2", "ba", "ab"))

    def test_refused(self):
        for name in ["", "r1", "1R", "A23456789", "R-"]:
            self.denies([], ("rule", name, "ba", "ab"))
        for left, right in [("ab", "ba"), ("a", "a"), ("", "a"), ("a" * 9, "a"), ("ba", "abc"), ("c", "a"), ("a", "b"),
                            ("a", "aa"), ("b" * 9, "a" * 9), ("a" * 33, "")]:
            self.denies([R1], ("rule", "N", left, right))
        self.denies([R1], R1)
        self.denies([R1, ONE], ("rule", "ONE", "ba", "ab"))
        self.denies([R1, SQUARE], ("rule", "SQ", "ba", "ab"))

    def test_12_and_13_rules(self):
        rows = [("rule", f"R{at}", "b", "a") for at in range(12)]
        self.denies(rows, ("rule", "N", "b", "a"))
        self.takes(rows[:11], ("rule", "N", "b", "a"))
        self.takes(rows + [("drop", "R3")], ("rule", "N", "b", "a"))

    def test_weights(self):
        book = Book("ab", weights=[3, 1])
        book.put(("rule", "R1", "a", "bb"))
        self.refuses(BadEntry(1, "R2"), book.put, ("rule", "R2", "bb", "a"))
        self.assertEqual(book.rules, Rules("ab", [("R1", "a", "bb")], weights=[3, 1]))
        self.assertIsNone(audit("ab", [("rule", "R1", "a", "bb")], weights=[3, 1]))
        self.assertEqual(audit("ab", [("rule", "R1", "a", "bb")]), 0)


class TestSquaresAndWays(Booked):

    def test_squares(self):
        book = self.takes([R1], SQUARE)
        self.assertEqual(book.squares, [SQUARE[1:]])
        self.takes([], ("square", "Q", ("ab", ()), ("ab", ())))
        for one, other in [(("ba", (ON,)), ("ba", ())), (("ba", (ON,)), ("bab", (ON,))), (("?", ()), ("?", ())),
                           (("ba", (BACK,)), ("ba", (BACK,))), (("ba", ((1, "R2", 0),)), ("ba", (ON,))),
                           (("ba", (ON, BACK) * 61), ("ba", ()))]:
            self.denies([R1], ("square", "Q", one, other))
            self.denies([R1], ("square", "Q", other, one))
        self.denies([], SQUARE)
        self.denies([R1], ("square", "q", ("ab", ()), ("ab", ())))
        for row in [R1, ONE, SQUARE, MOVES]:
            self.denies(FULL, ("square", row[1], ("ab", ()), ("ab", ())))

    def test_40_and_41_squares(self):
        rows = [("square", f"Q{at}", ("", ()), ("", ())) for at in range(40)]
        self.takes(rows[:39], rows[39])
        self.denies(rows, ("square", "N", ("", ()), ("", ())))
        self.takes(rows + [("drop", "Q7")], ("square", "Q7", ("", ()), ("", ())))

    def test_ways(self):
        book = self.takes([R1], ONE)
        self.assertEqual(book.way_of("ONE"), ("ba", (ON,)))
        self.takes([], ("way", "W", ("", ())))
        self.takes([R1], ("way", "W", ("ba", (ON, BACK) * 60)))
        for way in [("ba", (ON, BACK) * 60 + (ON,)), ("ba", (BACK,)), ("c", ()), ("a" * 33, ()), ("ba", (ON, ON)),
                    ("ba", ((1, "R2", 0),)), ("ba", ((2, "R1", 0),))]:
            self.denies([R1], ("way", "W", way))
        self.denies([R1], ("way", "w", ("ba", ())))
        self.denies([], ONE)
        for row in FULL:
            self.denies(FULL, ("way", row[1], ("ba", ())))

    def test_after_a_drop_the_rule_is_gone(self):
        self.denies([R1, R2, ("drop", "R1")], ONE)
        self.denies([R1, R2, ("drop", "R1")], SQUARE)


class TestMoves(Booked):

    BASE = [R1, ONE, THREE, SQUARE]

    def test_accepted(self):
        book = self.takes(self.BASE, MOVES)
        self.assertEqual(book.moves_of("M"), ("THREE", [("drop", 1)], "ONE"))
        self.takes(self.BASE, SWAP)
        self.takes(self.BASE, ("moves", "M", "ONE", [], "ONE"))
        self.takes(self.BASE, ("moves", "M", "ONE", [("grow", 0, ON), ("drop", 0)], "ONE"))
        self.takes(self.BASE + [("way", "W", ("ba", (ON,)))], ("moves", "M", "ONE", [], "W"))

    def test_refused(self):
        for row in [("m", "ONE", [], "ONE"), ("ONE", "ONE", [], "ONE"), ("M", "ONE", [], "THREE"),
                    ("M", "ONE", [("drop", 1)], "THREE"), ("M", "THREE", [("drop", 0)], "THREE"),
                    ("M", "ONE", [("?", 0)], "ONE"), ("M", "X", [], "ONE"), ("M", "ONE", [], "X"),
                    ("M", "R1", [], "R1"), ("M", "SQ", [], "SQ"), ("M", "ONE", [], "SQ"), ("M", "R1", [], "ONE"),
                    ("M", "", [], ""), ("M", "ONE", [("swap", 0, "Q9", 0, 0, 1)], "THREE")]:
            self.denies(self.BASE, ("moves",) + row)
        self.denies(self.BASE[:3], SWAP)
        self.denies(self.BASE + [("drop", "SQ")], SWAP)
        self.denies(self.BASE + [MOVES], ("moves", "N", "M", [], "M"))

    def test_400_and_401_moves(self):
        pair = [("grow", 0, ON), ("drop", 0)]
        self.takes(self.BASE, ("moves", "M", "ONE", pair * 200, "ONE"))
        self.denies(self.BASE, ("moves", "M", "ONE", pair * 200 + [("swap", 0, "SQ", 0, 0, 1)], "THREE"))

    def test_moves_that_are_too_long(self):
        rows = [R1, ("way", "W", ("ba", (ON, BACK) * 60))]
        self.takes(rows, ("moves", "M", "W", [("drop", 0), ("grow", 0, ON)], "W"))
        self.denies(rows, ("moves", "M", "W", [("grow", 0, ON), ("drop", 0)], "W"))


class TestDrops(Booked):

    def test_names_that_are_not_present(self):
        for name in ["", "R1", "X", "r1", "?"]:
            self.denies([], ("drop", name))
        self.denies([R1, ("drop", "R1")], ("drop", "R1"))
        self.denies(FULL, ("drop", "R"))

    def test_what_nothing_uses(self):
        for name in ["M", "SW", "R2"]:
            book = self.takes(FULL, ("drop", name))
            self.assertEqual(book.names, [other for other in NAMES if other != name])
            self.assertNotIn(name, book)
        for rows, name in [([R1], "R1"), ([R1, ONE], "ONE"), ([R1, SQUARE], "SQ"), ([R1, R2], "R1")]:
            self.takes(rows, ("drop", name))

    def test_what_something_uses(self):
        for name in ["R1", "ONE", "THREE", "SQ"]:
            self.denies(FULL, ("drop", name))

    def test_each_use_alone(self):
        for row in [ONE, SQUARE, ("square", "Q", ("ab", (BACK,)), ("ab", (BACK,))), ("way", "W", ("ab", (BACK,)))]:
            self.denies([R1, row], ("drop", "R1"))
            self.takes([R1, R2, row], ("drop", "R2"))
            self.takes([R1, row, ("drop", row[1])], ("drop", "R1"))
        # One leg alone uses the rule.
        for legs in [(("ba", (ON, BACK)), ("ba", ())), (("ba", ()), ("ba", (ON, BACK)))]:
            self.denies([R1, ("square", "Q") + legs], ("drop", "R1"))

    def test_a_later_step_uses_its_rule(self):
        way = ("ba", (ON, (1, "R2", 1)))
        self.denies([R1, R2, ("way", "W", way)], ("drop", "R2"))
        self.denies([R1, R2, ("square", "Q", way, way)], ("drop", "R2"))

    def test_grows_use_rules(self):
        rows = [R1, R2, ("way", "W", ("ba", ())), ("way", "V", ("ba", ((1, "R2", 0), (-1, "R2", 0))))]
        grown = ("moves", "M", "W", [("grow", 0, ON), ("drop", 0)], "W")
        self.denies(rows + [grown], ("drop", "R1"))
        self.takes(rows + [grown, ("drop", "M")], ("drop", "R1"))
        back = ("moves", "M", "W", [("grow", 0, (-1, "R2", 1)), ("drop", 0)], "W")
        self.denies([R1, R2, rows[2], back], ("drop", "R2"))
        self.takes([R1, R2, rows[2], back], ("drop", "R1"))

    def test_rows_of_moves_use_their_ways(self):
        rows = [R1, ONE, THREE]
        for name in ["ONE", "THREE"]:
            self.denies(rows + [MOVES], ("drop", name))
            self.takes(rows + [MOVES, ("drop", "M")], ("drop", name))
        self.takes(rows + [MOVES, ("way", "W", ("ba", (ON,)))], ("drop", "W"))

    def test_swaps_use_squares(self):
        rows = [R1, ONE, SQUARE, ("square", "Z", ("ba", (ON,)), ("ba", (ON, BACK, ON)))]
        there = ("moves", "M", "ONE", [("swap", 0, "SQ", 0, 0, 1), ("swap", 0, "SQ", 0, 1, 1)], "ONE")
        self.denies(rows + [there], ("drop", "SQ"))
        self.takes(rows + [there], ("drop", "Z"))
        mixed = ("moves", "M", "ONE", [("swap", 0, "SQ", 0, 0, 1), ("swap", 0, "Z", 0, 1, 1)], "ONE")
        for name in ["SQ", "Z"]:
            self.denies(rows + [mixed], ("drop", name))

    def test_names_that_were_dropped_filed_again(self):
        book = self.takes([R1, R2, ("drop", "R1")], ("rule", "R1", "bb", ""))
        self.assertEqual(book.names, ["R2", "R1"])
        self.assertEqual(book.rules, Rules("ab", [("R2", "b", "a"), ("R1", "bb", "")]))
        book = self.takes([R1, R2, ("drop", "R1")], ("way", "R1", ("ba", ((1, "R2", 0),))))
        self.assertEqual((book.names, book.rules.names), (["R2", "R1"], ["R2"]))
        squares = [("square", name, ("", ()), ("", ())) for name in ["A", "B", "C"]]
        book = book_of(squares + [("drop", "B"), squares[1]])
        self.assertEqual([square[0] for square in book.squares], ["A", "C", "B"])
        self.assertEqual(len(book), 5)


class TestOtherRows(Booked):

    def test_first_parts_that_name_no_kind(self):
        for row in [("", "A"), ("rules", "A"), ("?", "R1"), ("Rule", "A", "ba", "ab"), ("undo", "R1"), ("x", ""),
                    ("moves ", "M", "ONE", [], "ONE"), ("DROP", "R1")]:
            self.denies([R1], row)
            self.denies([], row)

    def test_60_and_61_rows(self):
        rows = [R1] + [("way", f"W{at}", ("ba", (ON,))) for at in range(59)]
        self.takes(rows[:59], rows[59])
        for row in [("way", "W", ("", ())), ("rule", "R", "ba", "ab"), ("square", "Q", ("", ()), ("", ())),
                    ("drop", "W3"), ("moves", "M", "W1", [], "W2"), ("?", "R1")]:
            self.denies(rows, row)
            if row[0] != "?":
                self.takes(rows[:59], row)

    def test_drops_count_and_undone_rows_do_not(self):
        rows = [R1, ("drop", "R1")] * 30
        self.denies(rows, R1)
        book = book_of(rows[:59])
        for _ in range(5):
            book.put(("drop", "R1"))
            self.refuses(BadEntry(60, "R1"), book.put, R1)
            book.undo()
        book.undo()
        self.assertEqual(len(book), 58)
        book.put_all([R1, ("drop", "R1")])
        self.assertEqual(book.rows, rows)


class TestUndoing(Booked):

    def test_nothing_to_undo(self):
        book = Book("ab")
        self.refuses(NothingToUndo(), book.undo)
        book.put(R1)
        self.assertEqual(book.undo(), R1)
        self.refuses(NothingToUndo(), book.undo)

    def test_each_kind_of_row(self):
        drops = [("drop", name) for name in ["M", "SW", "SQ", "ONE", "R2"]]
        rows = FULL + drops + [("moves", "M", "THREE", [], "THREE")]
        book = Book("ab")
        states = []
        for row in rows:
            states.append(state(book))
            book.put(row)
        for row, kept in zip(reversed(rows), reversed(states)):
            self.assertEqual(book.undo(), row)
            self.assertEqual(state(book), kept)

    def test_a_dropped_thing_is_back_in_its_old_position(self):
        book = book_of([R1, R2, ONE, ("rule", "R3", "bb", "")])
        for name in ["R2", "ONE", "R3"]:
            before = state(book)
            book.put(("drop", name))
            self.assertNotIn(name, book)
            self.assertEqual(book.undo(), ("drop", name))
            self.assertEqual(state(book), before)
            self.assertEqual(book.rules.names, ["R1", "R2", "R3"])

    def test_rows_filed_by_put_all_and_replay(self):
        book = Book.replay("ab", FULL[:3])
        book.put_all(FULL[3:])
        for row in reversed(FULL):
            self.assertEqual(book.undo(), row)
        self.assertEqual(book, Book("ab"))

    def test_a_refused_row_is_not_undone(self):
        book = book_of([R1, ONE])
        self.refuses(BadEntry(2, "ONE"), book.put, ONE)
        self.assertEqual(book.undo(), ONE)
        book.put(ONE)
        self.assertEqual(book.rows, [R1, ONE])


class TestPutAll(Booked):

    def test_all_rows(self):
        book = Book("ab")
        self.assertIsNone(book.put_all(FULL))
        self.assertEqual(book, book_of(FULL))
        self.assertIsNone(book.put_all([]))
        self.assertEqual(book.rows, FULL)

    def test_a_refused_row_at_any_place(self):
        for many in range(len(FULL)):
            book = book_of(FULL[:many])
            kept = state(book)
            for at in range(many, len(FULL) + 1):
                for wrong in [("?", "X"), ("drop", "X"), ("rule", "x", "b", "a")]:
                    rows = FULL[many:at] + [wrong] + FULL[at:]
                    self.refuses(BadEntry(at, wrong[1]), book.put_all, rows)
                    self.assertEqual(state(book), kept)
            book.put_all(FULL[many:])
            self.assertEqual(book, book_of(FULL))

    def test_drops_are_back_after_a_refused_row(self):
        book = book_of(FULL)
        kept = state(book)
        self.refuses(BadEntry(9, "R1"), book.put_all, [("drop", "M"), ("drop", "R2"), ("drop", "R1")])
        self.assertEqual(state(book), kept)

    def test_more_than_60_rows(self):
        book = book_of([R1])
        rows = [("way", f"W{at}", ("ba", ())) for at in range(60)]
        self.refuses(BadEntry(60, "W59"), book.put_all, rows)
        self.assertEqual(book.rows, [R1])
        book.put_all(rows[:59])
        self.assertEqual(len(book), 60)


class TestTelling(Booked):

    def test_a_full_book(self):
        book = book_of(FULL, weights=[1, 2])
        self.assertEqual((book.letters, book.weights, book.rows, book.names), ("ab", [1, 2], FULL, NAMES))
        self.assertEqual(book.rules, Rules("ab", [R1[1:], R2[1:]], weights=[1, 2]))
        self.assertEqual(book.squares, [SQUARE[1:]])
        self.assertEqual((len(book), list(book)), (7, FULL))

    def test_names_within(self):
        book = book_of(FULL + [("drop", "R2")])
        for name in NAMES:
            self.assertIs(name in book, name != "R2")
        for name in ["", "X", "r1", "drop"]:
            self.assertIs(name in book, False)

    def test_things_by_their_names(self):
        book = book_of(FULL)
        self.assertEqual(book.way_of("THREE"), THREE[2])
        self.assertEqual(book.square_of("SQ"), SQUARE[1:])
        self.assertEqual(book.moves_of("SW"), ("ONE", [("swap", 0, "SQ", 0, 0, 1)], "THREE"))
        self.assertEqual(book.way_of(name="ONE"), ONE[2])
        kinds = {"way_of": ["ONE", "THREE"], "square_of": ["SQ"], "moves_of": ["M", "SW"]}
        for call, right in kinds.items():
            for name in NAMES + ["", "X"]:
                if name not in right:
                    self.refuses(Unknown(name), getattr(book, call), name)
        book.put(("drop", "SW"))
        self.refuses(Unknown("SW"), book.moves_of, "SW")

    def test_lists_are_new(self):
        book = book_of(FULL)
        kept = state(book)
        for _ in range(2):
            for told in [book.rows, book.squares, book.names, book.weights, book.rules.rows, book.moves_of("M"),
                         book.link("ONE", "THREE"), state(book)[:-2]]:
                spoil(told)
            self.assertEqual(state(book), kept)
        spoil(book.put_all([("drop", "SW")]))
        row = book.undo()
        book.put(("drop", "M"))
        book.undo()
        spoil(row)
        self.assertEqual(state(book), kept)
        book = book_of(FULL[:5])
        row = book.undo()
        spoil(row)
        book.put(MOVES)
        self.assertEqual(book, book_of(FULL[:5]))

    def test_lists_that_are_told_by_iterating(self):
        book = book_of(FULL)
        kept = state(book)[:7]
        for row in book:
            spoil(row)
        self.assertEqual(state(book)[:7], kept)
        self.assertEqual(book.moves_of("M"), MOVES[2:])
        self.assertEqual(book, book_of(FULL))
        self.assertEqual(book.twin().rows, FULL)
        self.assertEqual(book.link("THREE", "ONE"), [("drop", 1)])
        self.assertEqual(list(book.twin()), FULL)
        book.put(("drop", "R2"))
        self.assertEqual(book.rows, FULL + [("drop", "R2")])

    def test_lists_that_are_passed_and_changed_later(self):
        moves = [("drop", 1)]
        rows = [R1, ONE, THREE, ("moves", "M", "THREE", moves, "ONE")]
        weights = [1, 2]
        one, other = Book("ab", weights=weights), Book.replay("ab", rows, weights=weights)
        for row in rows:
            one.put(row)
        third = Book("ab", weights=weights)
        third.put_all(rows)
        kept = [state(book) for book in (one, other, third)]
        spoil(rows)
        weights.append(7)
        moves.clear()
        self.assertEqual([state(book) for book in (one, other, third)], kept)
        self.assertEqual(one.moves_of("M"), ("THREE", [("drop", 1)], "ONE"))


class TestTwins(Booked):

    def test_twin(self):
        book = book_of(FULL, weights=[1, 3])
        twin = book.twin()
        self.assertEqual(state(twin), state(book))
        self.assertTrue(twin == book)
        twin.undo()
        book.put(("drop", "M"))
        self.assertEqual((twin.rows, book.rows), (FULL[:-1], FULL + [("drop", "M")]))
        self.assertFalse(twin == book)

    def test_equal_books(self):
        book = book_of(FULL)
        self.assertTrue(book == Book.replay("ab", FULL))
        self.assertTrue(book == Book.replay(letters="ab", rows=book.rows, weights=[1, 1]))
        for other in [Book("ab"), Book.replay("abc", FULL), Book.replay("ab", FULL, weights=[1, 2]), book_of(FULL[:-1]),
                      book_of(FULL + [("drop", "R2")]), book_of(FULL[:6] + [("rule", "R2", "bb", "a")]),
                      book_of(FULL[:4] + [("moves", "M", "THREE", [("drop", 0)], "ONE")] + FULL[5:])]:
            self.assertFalse(book == other)
            self.assertTrue(book != other)
        for other in [FULL, None, "ab", 0, Rules("ab", [])]:
            self.assertIs(book == other, False)
            self.assertIs(book != other, True)
        self.assertFalse(Book("ab") == Book("ba"))
        # Books with the same things present are not equal if their rows are not.
        self.assertFalse(Book("ab") == book_of([R1, ("drop", "R1")]))

    def test_replay_and_audit(self):
        self.assertEqual(Book.replay("ab", []), Book("ab"))
        self.assertEqual(Book.replay("ab", FULL), book_of(FULL))
        self.assertIsNone(audit("ab", []))
        self.assertIsNone(audit("ab", FULL))
        self.assertIsNone(audit(letters="ab", rows=FULL, weights=[2, 2]))
        for at in range(len(FULL)):
            without = FULL[:at] + FULL[at + 1:]
            expected = {0: 0, 1: 3, 2: 3, 3: 4}.get(at)
            self.assertEqual(audit("ab", without), expected)
            if expected is not None:
                self.refuses(BadEntry(expected, without[expected][1]), Book.replay, "ab", without)
        # The rows are not examined before the row that is refused.
        self.assertEqual(audit("ab", [R1, ("?", "X")] + [("rule", "?", "?", "?")] * 100), 1)

    def test_compare_books(self):
        one = book_of(FULL)
        other = book_of([R2, ("rule", "R1", "ba", "ab"), ("way", "THREE", ("ba", (ON,))), ("way", "NEW", ("", ())), ONE,
                         ("square", "M", ("", ()), ("", ())), ("way", "SQ", ("", ())), ("way", "OLD", ("", ()))])
        self.assertEqual(compare_books(one, other), (["SW"], ["NEW", "OLD"], ["THREE", "SQ", "M"]))
        self.assertEqual(compare_books(other, one), (["NEW", "OLD"], ["SW"], ["THREE", "M", "SQ"]))
        self.assertEqual(compare_books(one, one.twin()), ([], [], []))
        # The alphabets and the weights are not compared.
        self.assertEqual(compare_books(one, Book.replay("abc", FULL, weights=[1, 2, 9])), ([], [], []))
        self.assertEqual(compare_books(one=Book("ab"), other=one), ([], NAMES, []))
        self.assertEqual(compare_books(one, book_of(FULL[:4] + [("moves", "M", "THREE", [("drop", 0)], "ONE")])),
                         (["SW", "R2"], [], ["M"]))
        # A name that was dropped is not present, and the later filing counts.
        other.put_all([("drop", "OLD"), ("way", "OLD", ("a", ())), ("drop", "NEW")])
        self.assertEqual(compare_books(one, other)[1], ["OLD"])
        self.assertEqual(state(one), state(book_of(FULL)))


class TestLinks(Booked):

    def chain(self, pairs, many):
        """A book with so many ways W0, W1, .., and a row of moves for each pair of numbers of ways."""
        book = Book.replay("ab", [R1] + [("way", f"W{at}", ("ba", (ON, BACK) * at)) for at in range(many)])
        for number, (start, goal) in enumerate(pairs):
            if start <= goal:
                moves = [("grow", 0, ON)] * (goal - start)
            else:
                moves = [("drop", 0)] * (start - goal)
            book.put(("moves", f"M{number}", f"W{start}", moves, f"W{goal}"))
        return book

    def check(self, book, start, goal, many):
        """The link does lead there and has so many moves."""
        moves = book.link(start, goal)
        self.assertEqual(len(moves), many)
        self.assertTrue(leads(book.rules, book.squares, book.way_of(start), moves, book.way_of(goal)))

    def test_rows_as_they_are_and_turned_about(self):
        book = book_of(FULL[:5])
        self.assertEqual(book.link("THREE", "ONE"), [("drop", 1)])
        self.assertEqual(book.link("ONE", "THREE"), [("grow", 1, BACK)])
        self.assertEqual(book.link(start="ONE", goal="ONE"), [])
        book = book_of([R1, ONE, THREE, SQUARE, SWAP])
        self.assertEqual(book.link("ONE", "THREE"), [("swap", 0, "SQ", 0, 0, 1)])
        self.assertEqual(book.link("THREE", "ONE"), [("swap", 0, "SQ", 0, 1, 1)])

    def test_several_rows(self):
        book = self.chain([(0, 1), (2, 1), (2, 4), (3, 4)], 5)
        self.check(book, "W0", "W3", 1 + 1 + 2 + 1)
        self.check(book, "W3", "W0", 5)
        self.check(book, "W0", "W4", 4)
        self.check(book, "W1", "W2", 1)

    def test_the_least_number_of_rows(self):
        # One row with many moves is less than several rows with few.
        book = self.chain([(0, 1), (1, 2), (2, 3), (3, 4), (0, 20), (20, 4)], 21)
        self.check(book, "W0", "W4", 20 + 16)
        self.check(book, "W0", "W3", 3)
        book = self.chain([(0, 1), (1, 2), (0, 20), (20, 2)], 21)
        self.assertIn(len(book.link("W0", "W2")), [2, 38])
        book = self.chain([(0, 1), (1, 2), (2, 3), (3, 0), (0, 3)], 4)
        self.check(book, "W0", "W3", 3)

    def test_no_link(self):
        book = self.chain([(0, 1), (2, 3)], 5)
        self.assertIsNone(book.link("W0", "W2"))
        self.assertIsNone(book.link("W4", "W0"))
        self.assertEqual(book.link("W4", "W4"), [])
        book.put(("drop", "M0"))
        self.assertIsNone(book.link("W0", "W1"))
        book.undo()
        self.check(book, "W0", "W1", 1)

    def test_equal_ways_under_different_names(self):
        book = book_of([R1, ONE, ("way", "SAME", ONE[2])])
        self.assertIsNone(book.link("ONE", "SAME"))
        book.put(("moves", "M", "ONE", [], "SAME"))
        self.assertEqual(book.link("ONE", "SAME"), [])
        self.assertEqual(book.link("SAME", "ONE"), [])
        book = book_of([R1, ONE, THREE, ("way", "SAME", ONE[2]), MOVES])
        self.assertIsNone(book.link("THREE", "SAME"))

    def test_a_row_from_a_way_to_itself(self):
        book = book_of([R1, ONE, ("moves", "M", "ONE", [("grow", 0, ON), ("drop", 0)], "ONE")])
        self.assertEqual(book.link("ONE", "ONE"), [])

    def test_unknown_names(self):
        book = book_of(FULL)
        for name in ["X", "", "R1", "SQ", "M"]:
            self.refuses(Unknown(name), book.link, name, "?")
            self.refuses(Unknown(name), book.link, name, "ONE")
            self.refuses(Unknown(name), book.link, "ONE", name)
            self.refuses(Unknown(name), book.link, name, name)

    def test_a_link_of_more_than_400_moves(self):
        pair = [("grow", 0, ON), ("drop", 0)]
        rows = [R1, ONE, ("way", "B", ("ba", (ON,))), ("way", "C", ("ba", (ON,))),
                ("moves", "M", "ONE", pair * 200, "B"), ("moves", "N", "B", pair * 50, "C")]
        book = book_of(rows)
        moves = book.link("ONE", "C")
        self.assertEqual(len(moves), 500)
        self.refuses(TooMany(), do_moves, book.rules, [], ONE[2], moves)
        self.assertEqual(do_moves(book.rules, [], do_moves(book.rules, [], ONE[2], moves[:400]), moves[400:]), ONE[2])

    def test_random_links(self):
        luck = random.Random(23)
        for _ in range(60):
            many = luck.randint(2, 7)
            pairs = [(luck.randrange(many), luck.randrange(many)) for _ in range(luck.randint(0, 8))]
            book = self.chain(pairs, many)
            for start in range(many):
                distances = self.distances(pairs, start)
                for goal in range(many):
                    moves = book.link(f"W{start}", f"W{goal}")
                    if goal in distances:
                        self.assertIn(len(moves), distances[goal])
                        self.assertTrue(leads(book.rules, [], book.way_of(f"W{start}"), moves, book.way_of(f"W{goal}")))
                    else:
                        self.assertIsNone(moves)

    def distances(self, pairs, start):
        """For each reached way the numbers of moves of the links with the fewest rows."""
        known = {start: {0}}
        layer = known
        while layer:
            further = {}
            for number, lengths in layer.items():
                for one, other in pairs + [pair[::-1] for pair in pairs]:
                    if one == number and other not in known:
                        further.setdefault(other, set()).update(length + abs(one - other) for length in lengths)
            known = {**known, **further}
            layer = further
        return known


class TestRandomBooks(Booked):

    def test_random_rows(self):
        luck = random.Random(24)
        taken = refused = 0
        for _ in range(40):
            book = Book("ab")
            rows = []
            for _ in range(60):
                row = self.some_row(luck)
                if luck.random() < 0.1 and rows:
                    self.assertEqual(book.undo(), rows.pop())
                try:
                    book.put(row)
                    rows.append(row)
                    taken += 1
                except BadEntry as error:
                    self.assertEqual((error.at, error.name), (len(rows), row[1]))
                    refused += 1
                self.assertEqual(book.rows, rows)
            self.assertEqual(state(book), state(Book.replay("ab", rows)))
            self.consistent(book)
        self.assertTrue(taken > 300 and refused > 300, (taken, refused))

    def some_row(self, luck):
        name, rule = luck.choice(["A", "B", "C", "D", "E", "F"]), luck.choice(["A", "B", "C"])
        on, back = (1, rule, 0), (-1, rule, 0)
        legs = [("ba", (on,)), ("ba", (on, back, on))]
        way = luck.choice(legs + [("ba", ()), ("ab", (back,))])
        moves = luck.choice([[], [("drop", 1)], [("grow", 1, back)], [("swap", 0, luck.choice("DEF"), 0, 0, 1)]])
        return luck.choice([("rule", name, "ba", "ab"), ("square", name, legs[0], legs[1]), ("way", name, way),
                            ("moves", name, luck.choice("ABCDEF"), moves, luck.choice("ABCDEF")), ("drop", name)])

    def consistent(self, book):
        """What is present is right with the rules and squares that are present."""
        for name in book.names:
            moves = tell(book, "moves_of", name)
            if moves is not None:
                self.assertTrue(leads(book.rules, book.squares, book.way_of(moves[0]), moves[1], book.way_of(moves[2])))


class TestErrors(Case):

    def test_they_are_errors_of_the_program(self):
        for error in [BadEntry(3, "A"), NothingToUndo(), BadMove(1)]:
            self.assertIsInstance(error, WayfillError)


if __name__ == "__main__":
    unittest.main()
