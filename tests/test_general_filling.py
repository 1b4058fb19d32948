"""Points 2 to 5 for squares.py, moves.py, fill.py and fares.py."""

import random
import unittest

from helpers import Calls, Case, Orders
from wayfill import fares, fill, moves, squares
from wayfill.errors import BadEnds, BadFare, BadMove, BadName, BadNumber, BadOverlap, BadSquare, BadWord, TooMany
from wayfill.errors import Unknown
from wayfill.rules import Rules
from wayfill.squares import plain_squares

RULES = Rules("ab", [("R1", "ba", "ab"), ("E", "aa", "")], weights=[2, 3])
SQUARES = plain_squares(RULES)
ON = (1, "R1", 0)
OVERLAP = ("baa", (1, "R1", 0), (1, "E", 1))
WAY = ("baa", ((1, "E", 1), (-1, "E", 1), (1, "R1", 0)))
LOOP = ("baa", ((1, "E", 1), (-1, "E", 0), (-1, "R1", 1), (-1, "R1", 0)))
MOVES = [("drop", 0), ("grow", 1, (-1, "E", 2)), ("exchange", 0, "right"), ("exchange", 0, "left")]
SWAPS = [("swap", 0, "Q1", 0, 1, 1), ("swap", 0, "Q1", 0, 0, 1)]
WIDE = ([1, 2], [[1, 2], [3, 4]], [[5, 6], [7, 8]])
TEXT = "Q1 baa R1+0 R1+1 E+0 = baa E+1"

CALLS = [
    (squares.is_square, "(rules, square)", {"rules": RULES, "square": SQUARES[0]}),
    (squares.check_squares, "(rules, squares)", {"rules": RULES, "squares": SQUARES}),
    (squares.answering_leg, "(rules, square, overlap)", {"rules": RULES, "square": SQUARES[0], "overlap": OVERLAP}),
    (squares.lacking_overlaps, "(rules, squares)", {"rules": RULES, "squares": SQUARES[1:]}),
    (squares.plain_square, "(rules, overlap, *, name)", {"rules": RULES, "overlap": OVERLAP, "name": "S"}),
    (squares.plain_squares, "(rules)", {"rules": RULES}),
    (squares.boundary, "(rules, square)", {"rules": RULES, "square": SQUARES[0]}),
    (squares.exchange_legs, "(square)", {"square": SQUARES[0]}),
    (squares.format_square, "(square)", {"square": SQUARES[0]}),
    (squares.parse_square, "(rules, text)", {"rules": RULES, "text": TEXT}),
    (moves.move_fits, "(rules, squares, way, move)",
     {"rules": RULES, "squares": SQUARES, "way": WAY, "move": SWAPS[0]}),
    (moves.do_move, "(rules, squares, way, move)", {"rules": RULES, "squares": SQUARES, "way": WAY, "move": SWAPS[0]}),
    (moves.do_moves, "(rules, squares, way, moves)", {"rules": RULES, "squares": SQUARES, "way": WAY, "moves": MOVES}),
    (moves.turn_move, "(rules, squares, way, move)",
     {"rules": RULES, "squares": SQUARES, "way": WAY, "move": ("drop", 0)}),
    (moves.turn_moves, "(rules, squares, way, moves)",
     {"rules": RULES, "squares": SQUARES, "way": WAY, "moves": MOVES}),
    (moves.leads, "(rules, squares, one, moves, other)",
     {"rules": RULES, "squares": SQUARES, "one": WAY, "moves": SWAPS, "other": WAY}),
    (moves.shift_moves, "(moves, *, at=0, place=0)", {"moves": MOVES + SWAPS, "at": 2, "place": 3}),
    (moves.list_moves, "(rules, squares, way, *, steps)",
     {"rules": RULES, "squares": SQUARES, "way": WAY, "steps": 5}),
    (fill.first_peak, "(rules, way)", {"rules": RULES, "way": WAY}),
    (fill.flatten, "(rules, squares, way)", {"rules": RULES, "squares": SQUARES, "way": WAY}),
    (fill.settle, "(rules, squares, way)", {"rules": RULES, "squares": SQUARES, "way": WAY}),
    (fill.fill_between, "(rules, squares, one, other)",
     {"rules": RULES, "squares": SQUARES, "one": WAY, "other": ("baa", (ON,))}),
    (fill.fill_loop, "(rules, squares, way)", {"rules": RULES, "squares": SQUARES, "way": LOOP}),
    (fill.used_squares, "(moves)", {"moves": MOVES + SWAPS}),
    (fill.square_uses, "(squares, moves)", {"squares": SQUARES, "moves": MOVES + SWAPS}),
    (fares.count_row, "(rules, way)", {"rules": RULES, "way": WAY}),
    (fares.square_rows, "(rules, squares)", {"rules": RULES, "squares": SQUARES}),
    (fares.fare_of, "(rules, fare, way)", {"rules": RULES, "fare": [1, 2], "way": WAY}),
    (fares.fare_holds, "(rules, squares, fare)", {"rules": RULES, "squares": SQUARES, "fare": [0, 1]}),
    (fares.list_fares, "(rules, squares)", {"rules": RULES, "squares": SQUARES}),
    (fares.wide_fare_of, "(rules, fare, way)", {"rules": RULES, "fare": WIDE, "way": WAY}),
    (fares.wide_fare_holds, "(rules, squares, fare)", {"rules": RULES, "squares": SQUARES, "fare": WIDE}),
    (fares.list_wide_fares, "(rules, squares)", {"rules": RULES, "squares": SQUARES}),
    (fares.obstacle, "(rules, squares, way, *, wide=False)",
     {"rules": RULES, "squares": SQUARES[1:], "way": LOOP, "wide": True}),
    (fares.obstacle, "(rules, squares, way, *, wide=False)",
     {"rules": RULES, "squares": SQUARES[1:], "way": LOOP, "wide": False}),
]

ON_RULES = (RULES,)
ON_SQUARES = (SQUARES, [("q", ("?", ()), ("?", ()))], BadSquare("q"))
MANY_SQUARES = (SQUARES, SQUARES * 21, TooMany())
ON_WAY = (WAY, ("?", ()), BadWord("?"))
ON_LOOP = (LOOP, ("baa", ((1, "E", 1),)), BadEnds())
OTHER_WAY = (("baa", (ON,)), ("baa", ((1, "R9", 0),)), Unknown("R9"))
ON_FARE = ([0, 1], [1], BadFare())
ON_WIDE = (WIDE, ([1], [], []), BadFare())

ORDERS = [
    (squares.answering_leg, [ON_RULES, (SQUARES[0], ("Q1", WAY, ("baa", ())), BadSquare("Q1")),
                             (OVERLAP, ("baa", ON, ON), BadOverlap())], None),
    (squares.plain_square, [ON_RULES, (OVERLAP, ("baa", ON, ON), BadOverlap()), ("S", "?", BadName("?"))], "name"),
    (squares.lacking_overlaps, [ON_RULES, MANY_SQUARES], None),
    (moves.do_move, [ON_RULES, ON_SQUARES, ON_WAY, (("drop", 0), ("drop", 9), BadMove(0))], None),
    (moves.turn_move, [ON_RULES, ON_SQUARES, ON_WAY, (("drop", 0), ("drop", 9), BadMove(0))], None),
    (moves.do_moves, [ON_RULES, MANY_SQUARES, ON_WAY, (MOVES, MOVES * 101, TooMany())], None),
    (moves.turn_moves, [ON_RULES, ON_SQUARES, ON_WAY, (MOVES, [("drop", 0)] * 401, TooMany())], None),
    (moves.list_moves, [ON_RULES, ON_SQUARES, ON_WAY, (5, 121, BadNumber(121))], "steps"),
    (fill.flatten, [ON_RULES, ON_SQUARES, ON_WAY], None),
    (fill.settle, [ON_RULES, ON_SQUARES, ON_WAY], None),
    (fill.fill_between, [ON_RULES, ON_SQUARES, ON_WAY, OTHER_WAY], None),
    (fill.fill_loop, [ON_RULES, ON_SQUARES, ON_LOOP], None),
    (fares.fare_of, [ON_RULES, ON_FARE, ON_WAY], None),
    (fares.fare_holds, [ON_RULES, ON_SQUARES, ON_FARE], None),
    (fares.wide_fare_of, [ON_RULES, ON_WIDE, ON_WAY], None),
    (fares.wide_fare_holds, [ON_RULES, ON_SQUARES, ON_WIDE], None),
    (fares.obstacle, [ON_RULES, ON_SQUARES, ON_LOOP, (False,)], "wide"),
    (fares.obstacle, [ON_RULES, ON_SQUARES, ON_LOOP, (True,)], "wide"),
]


class TestCalls(Calls, Case):

    CALLS = CALLS


class TestOrderOfErrors(Orders, Case):

    ORDERS = ORDERS


class TestJudges(Case):

    TEXTS = ["", "a", "b", "ab", "ba", "baa", "aa", "c", "A", "-", "R1", "E", "R9", "1R", "Q1", "left", "right",
             "a" * 32, "a" * 33, "?" * 5000]
    NUMBERS = [0, 1, 2, 3, -1, -2, 5, 120, 10 ** 17, -10 ** 17]

    def setUp(self):
        self.luck = random.Random(12)

    def text(self):
        return self.luck.choice(self.TEXTS)

    def number(self):
        return self.luck.choice(self.NUMBERS)

    def step(self):
        return self.luck.choice([1, -1, self.number()]), self.luck.choice(["R1", "E", self.text()]), self.number()

    def way(self):
        if self.luck.random() < 0.5:
            return self.luck.choice([WAY, LOOP, ("", ()), ("baa", (ON,))])
        return self.text(), tuple(self.step() for _ in range(self.luck.choice([0, 1, 2, 121])))

    def square(self):
        return self.luck.choice([SQUARES[0], SQUARES[1], (self.text(), self.way(), self.way())])

    def move(self):
        return self.luck.choice([("drop", self.number()), ("grow", self.number(), self.step()),
                                 ("exchange", self.number(), self.text()), (self.text(), self.number()), ("jump",),
                                 ("swap", self.number(), self.text(), self.number(), self.number(), self.number())])

    def test_they_raise_nothing(self):
        for _ in range(1200):
            some = [self.square() for _ in range(self.luck.choice([0, 1, 1, 2, 41]))]
            row = [self.move() for _ in range(self.luck.choice([0, 1, 2, 401]))]
            self.assertIsInstance(squares.is_square(RULES, self.square()), bool)
            self.assertIsInstance(moves.move_fits(RULES, some, self.way(), self.move()), bool)
            self.assertIsInstance(moves.leads(RULES, some, self.way(), row, self.way()), bool)


if __name__ == "__main__":
    unittest.main()
