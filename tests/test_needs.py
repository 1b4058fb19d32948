"""Points 72 to 74: needs.py."""

import unittest

from helpers import Case
from test_fill import MIXED, SAMPLES, long_loop
from wayfill.errors import BadSquare, BoundError, Lacking, Repeated, TooLong, TooMany, Unknown
from wayfill.fares import square_rows
from wayfill.fill import fill_loop, used_squares
from wayfill.moves import do_moves
from wayfill.needs import base_squares, follows, least_needed, thin, without_square
from wayfill.rules import Rules
from wayfill.squares import boundary, check_squares, exchange_legs, plain_squares
from wayfill.whole import express, row_rank

RULES = Rules("ab", [("R1", "ba", "ab"), ("E", "aa", "")])
PLAIN = plain_squares(RULES)

# Three rules with equal sides: any two of the squares between them are enough.
THREE = Rules("ab", [("A", "ab", "a"), ("B", "ab", "a"), ("C", "ab", "a")])
LEGS = [("ab", ((1, name, 0),)) for name in "ABC"]
TRIANGLE = [("X", LEGS[0], LEGS[1]), ("Y", LEGS[1], LEGS[2]), ("Z", LEGS[0], LEGS[2])]


def empty_squares(many):
    return [(f"E{at}", ("", ()), ("", ())) for at in range(many)]


class TestRanks(Case):

    def test_the_triangle(self):
        self.assertEqual(least_needed(THREE, TRIANGLE), 2)
        self.assertEqual(base_squares(THREE, TRIANGLE), ["X", "Y"])
        self.assertEqual(base_squares(THREE, TRIANGLE[::-1]), ["Z", "Y"])
        self.assertEqual(least_needed(THREE, TRIANGLE[:1] + [exchange_legs(("W",) + TRIANGLE[0][1:])]), 1)

    def test_without_squares(self):
        self.assertEqual(least_needed(THREE, []), 0)
        self.assertEqual(base_squares(THREE, []), [])
        self.assertEqual(least_needed(Rules("ab", []), empty_squares(3)), 0)
        self.assertEqual(base_squares(Rules("ab", []), empty_squares(3)), [])

    def test_against_the_definition(self):
        for rules in SAMPLES:
            squares = plain_squares(rules)
            rows = square_rows(rules, squares)
            self.assertEqual(least_needed(rules, squares), row_rank(rows, width=len(rules)))
            base = [square[0] for at, square in enumerate(squares) if express(rows[:at], rows[at]) is None]
            self.assertEqual(base_squares(rules, squares), base)
            self.assertEqual(len(base), least_needed(rules, squares))

    def test_errors(self):
        for call in [least_needed, base_squares]:
            self.refuses(BadSquare("q"), call, RULES, PLAIN + [("q", ("", ()), ("", ()))])
            self.refuses(Repeated("Q1"), call, RULES, PLAIN + PLAIN)
            self.refuses(TooMany(), call, RULES, empty_squares(41))
        self.assertEqual(least_needed(RULES, empty_squares(40)), 0)
        self.assertEqual(base_squares(RULES, empty_squares(39) + PLAIN[:1]), ["Q1"])


class TestWithout(Case):

    def test_taken_out(self):
        self.assertEqual(without_square(TRIANGLE, "Y"), [TRIANGLE[0], TRIANGLE[2]])
        self.assertEqual(without_square(TRIANGLE[:1], "X"), [])

    def test_all_of_the_name(self):
        self.assertEqual(without_square(TRIANGLE + TRIANGLE, "X"), TRIANGLE[1:] + TRIANGLE[1:])

    def test_unknown_names(self):
        for name in ["", "x", "W", "X "]:
            self.refuses(Unknown(name), without_square, TRIANGLE, name)
        self.refuses(Unknown("X"), without_square, [], "X")

    def test_nothing_else_is_examined(self):
        wrong = [("?", ("?", ((7, "?", -1),)), ("a" * 99, ()))] * 500
        self.assertEqual(without_square(wrong + TRIANGLE, "?"), TRIANGLE)
        self.assertEqual(without_square(wrong + TRIANGLE[:1], "X"), wrong)


class TestFollowing(Case):

    def test_a_row_that_fills_the_boundary(self):
        # The boundary of Y is settled over the step A, so X and Z are enough for it.
        moves = follows(THREE, TRIANGLE, "Y")
        others = [TRIANGLE[0], TRIANGLE[2]]
        way = boundary(THREE, TRIANGLE[1])
        self.assertEqual(moves, fill_loop(THREE, others, way))
        self.assertEqual(do_moves(THREE, others, way, moves), ("ab", ()))
        self.assertEqual([move[2] for move in moves if move[0] == "swap"], ["X", "Z"])

    def test_an_equal_square(self):
        doubled = TRIANGLE + [("W",) + TRIANGLE[0][1:]]
        for name in "XW":
            moves = follows(THREE, doubled, name)
            others = without_square(doubled, name)
            self.assertEqual(do_moves(THREE, others, boundary(THREE, TRIANGLE[0]), moves), ("ab", ()))

    def test_an_empty_row(self):
        squares = PLAIN + [("L", ("ab", ()), ("ab", ()))]
        self.assertEqual(follows(RULES, squares, "L"), [])
        self.assertEqual(follows(RULES, squares[2:], "L"), [])

    def test_none_where_a_square_is_lacking(self):
        for square in PLAIN:
            self.assertIsNone(follows(RULES, PLAIN, square[0]))
        # Y and Z join the steps A and B as well, but no square answers their overlap.
        self.assertIsNone(follows(THREE, TRIANGLE, "X"))
        self.assertIsNone(follows(THREE, TRIANGLE, "Z"))

    def test_too_long(self):
        leg = "ba", ((1, "R1", 0), (-1, "R1", 0)) * 30
        longer = "ba", ((1, "R1", 0), (-1, "R1", 0)) * 31
        # The boundary has 120 steps and cannot be settled, or has 122 steps.
        for square in [("L", leg, leg), ("L", leg, longer), ("L", longer, longer)]:
            self.refuses(TooLong(), follows, RULES, PLAIN + [square], "L")
        short = "ba", leg[1][:40]
        moves = follows(RULES, PLAIN + [("L", short, short)], "L")
        self.assertEqual(do_moves(RULES, PLAIN, boundary(RULES, ("L", short, short)), moves), ("ba", ()))

    def test_too_many(self):
        loop = long_loop(349)
        self.assertEqual(len(follows(MIXED, [("L", loop, ("", ()))], "L")), 400)
        self.refuses(TooMany(), follows, MIXED, [("L", long_loop(350), ("", ()))], "L")

    def test_errors_in_order(self):
        self.refuses(BadSquare("q"), follows, RULES, [("q", ("", ()), ("", ()))], "?")
        self.refuses(TooMany(), follows, RULES, empty_squares(41), "?")
        for name in ["?", "", "Q3", "R1"]:
            self.refuses(Unknown(name), follows, RULES, PLAIN, name)
        self.refuses(Unknown("Q1"), follows, RULES, [], "Q1")


class TestThinning(Case):

    def thinned(self, rules, squares):
        """What point 74 says, by its words."""
        kept, papers = list(squares), []
        for square in squares[::-1]:
            others = [other for other in kept if other != square]
            try:
                moves = fill_loop(rules, others, boundary(rules, square))
            except (Lacking, BoundError):
                continue
            kept = others
            papers.append((square[0], moves))
        return kept, papers

    def checked(self, rules, squares):
        kept, papers = thin(rules, squares)
        self.assertEqual((kept, papers), self.thinned(rules, squares))
        left = list(squares)
        for name, moves in papers:
            square = [square for square in left if square[0] == name][0]
            left = without_square(left, name)
            way = boundary(rules, square)
            self.assertEqual(do_moves(rules, left, way, moves), (way[0], ()))
        self.assertEqual(left, kept)
        check_squares(rules, kept)
        return [square[0] for square in kept], [name for name, moves in papers]

    def test_from_the_last_to_the_first(self):
        doubled = [TRIANGLE[0], ("V",) + TRIANGLE[0][1:], TRIANGLE[1], exchange_legs(("U",) + TRIANGLE[0][1:]),
                   TRIANGLE[2]]
        self.assertEqual(self.checked(THREE, doubled), (["X", "Z"], ["U", "Y", "V"]))
        self.assertEqual(self.checked(THREE, doubled[::-1]), (["Z", "U"], ["X", "V", "Y"]))
        self.assertEqual(self.checked(THREE, TRIANGLE), (["X", "Z"], ["Y"]))

    def test_samples(self):
        for rules in SAMPLES:
            squares = plain_squares(rules)[:6]
            doubled = squares + [exchange_legs((f"X{at}",) + square[1:]) for at, square in enumerate(squares)]
            kept, out = self.checked(rules, doubled)
            self.assertGreaterEqual(len(out), len(squares))
            self.checked(rules, doubled[::-1])

    def test_an_empty_paper(self):
        self.assertEqual(thin(RULES, [("L", ("ab", ()), ("ab", ()))]), ([], [("L", [])]))
        self.assertEqual(thin(RULES, []), ([], []))

    def test_papers_use_the_squares_that_are_still_there(self):
        again = ("V",) + TRIANGLE[0][1:]
        for squares, told in [([TRIANGLE[2], again, TRIANGLE[0], TRIANGLE[1]], [("Y", ["V", "Z"]), ("X", ["V"])]),
                              ([TRIANGLE[2], TRIANGLE[0], again, TRIANGLE[1]], [("Y", ["X", "Z"]), ("V", ["X"])]),
                              ([TRIANGLE[1], TRIANGLE[2], TRIANGLE[0], again], [("V", ["X"]), ("Y", ["X", "Z"])])]:
            kept, papers = thin(THREE, squares)
            self.assertEqual([(name, used_squares(moves)) for name, moves in papers], told)

    def test_attempts_that_are_too_long_or_too_many(self):
        longer = "ba", ((1, "R1", 0), (-1, "R1", 0)) * 31
        for square in [("L", longer, longer), ("L", longer, ("ba", longer[1][:60])), ("L", longer, ("ba", ()))]:
            self.assertEqual(self.checked(RULES, PLAIN + [square])[1], [] if len(square[2][1]) else ["L"])
        self.assertEqual(thin(MIXED, [("L", long_loop(350), ("", ()))])[1], [])
        self.assertEqual(len(thin(MIXED, [("L", long_loop(349), ("", ()))])[1][0][1]), 400)

    def test_12_and_13_squares(self):
        self.assertEqual(thin(RULES, empty_squares(12)), ([], [(f"E{at}", []) for at in range(11, -1, -1)]))
        self.refuses(TooMany(), thin, RULES, empty_squares(13))
        # Before the content of the list is examined.
        self.refuses(TooMany(), thin, RULES, [("?", ("?", ()), ("", ()))] * 13)
        self.refuses(BadSquare("?"), thin, RULES, [("?", ("?", ()), ("", ()))] * 12)
        self.refuses(Repeated("Q1"), thin, RULES, PLAIN + PLAIN)


if __name__ == "__main__":
    unittest.main()
