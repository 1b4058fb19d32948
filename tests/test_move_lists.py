"""Points 56 and 57: shifting rows of moves and listing the moves that fit."""

import itertools
import unittest

from helpers import Case
from wayfill.errors import BadMove, BadNumber, BadSquare, BadWord, TooLong, TooMany
from wayfill.fill import settle
from wayfill.moves import do_move, do_moves, list_moves, move_fits, shift_moves
from wayfill.rules import Rules
from wayfill.squares import plain_squares
from wayfill.steps import steps_at
from wayfill.ways import join_ways, set_way, way_words

RULES = Rules("ab", [("R1", "ba", "ab"), ("E", "aa", "")])
PLAIN = plain_squares(RULES)
ON = (1, "R1", 0)
BACK = (-1, "R1", 0)
HUGE = 10 ** 18 - 1
WAY = ("baab", ((1, "R1", 0), (-1, "E", 3), (1, "R1", 1), (1, "E", 0)))


class TestShifting(Case):

    MOVES = [("drop", 3), ("grow", 0, (-1, "E", 2)), ("exchange", 5, "left"), ("swap", 1, "Q", 4, 0, -1)]

    def test_indexes_and_places(self):
        self.assertEqual(shift_moves(self.MOVES, at=10, place=7),
                         [("drop", 13), ("grow", 10, (-1, "E", 9)), ("exchange", 15, "left"),
                          ("swap", 11, "Q", 11, 0, -1)])
        self.assertEqual(shift_moves(self.MOVES, at=-1),
                         [("drop", 2), ("grow", -1, (-1, "E", 2)), ("exchange", 4, "left"), ("swap", 0, "Q", 4, 0, -1)])
        self.assertEqual(shift_moves(self.MOVES, place=-3),
                         [("drop", 3), ("grow", 0, (-1, "E", -1)), ("exchange", 5, "left"), ("swap", 1, "Q", 1, 0, -1)])
        self.assertEqual(shift_moves(self.MOVES), self.MOVES)
        self.assertEqual(shift_moves([], at=3, place=3), [])

    def test_nothing_is_examined(self):
        moves = [("exchange", -5, "?"), ("swap", HUGE, "?", -HUGE, 7, 9), ("grow", -1, (5, "?", -9))] * 300
        self.assertEqual(shift_moves(moves, at=HUGE, place=-1),
                         [("exchange", HUGE - 5, "?"), ("swap", 2 * HUGE, "?", -HUGE - 1, 7, 9),
                          ("grow", HUGE - 1, (5, "?", -10))] * 300)

    def test_a_way_set_between_two_words(self):
        moves = settle(RULES, PLAIN, WAY)
        result = do_moves(RULES, PLAIN, WAY, moves)
        for before, after in [("", ""), ("a", ""), ("bab", "a"), ("", "bb")]:
            placed = set_way(RULES, before, WAY, after)
            shifted = shift_moves(moves, place=len(before))
            self.assertEqual(do_moves(RULES, PLAIN, placed, shifted), set_way(RULES, before, result, after))

    def test_a_way_behind_another_one(self):
        moves = settle(RULES, PLAIN, WAY)
        result = do_moves(RULES, PLAIN, WAY, moves)
        front = ("baab", ((1, "R1", 0), (-1, "R1", 0), (-1, "E", 0), (1, "E", 0)))
        behind = join_ways(RULES, front, WAY)
        self.assertEqual(do_moves(RULES, PLAIN, behind, shift_moves(moves, at=4)), join_ways(RULES, front, result))


def all_moves(rules, squares, way):
    """Every move that could be listed, in the move order."""
    words, many = way_words(rules, way), len(way[1])
    found = [("drop", at) for at in range(many)]
    found += [("exchange", at, side) for at in range(many) for side in ("left", "right")]
    for at, square, place, leg, sign in itertools.product(range(many + 1), squares, range(12), (0, 1), (1, -1)):
        found.append(("swap", at, square[0], place, leg, sign))
    found += [("grow", at, step) for at in range(many + 1) for step in steps_at(rules, words[at])]
    return found


class TestListing(Case):

    def listed(self, rules, squares, way, steps):
        expected = [move for move in all_moves(rules, squares, way) if move_fits(rules, squares, way, move)
                    and len(do_move(rules, squares, way, move)[1]) <= steps]
        self.assertEqual(list_moves(rules, squares, way, steps=steps), expected)
        return expected

    def test_the_whole_order(self):
        loops = [("Z", ("aa", ()), ("aa", ((1, "E", 0), (-1, "E", 0)))),
                 ("B", ("ab", ((-1, "R1", 0),)), ("ab", ((-1, "R1", 0),)))]
        squares = PLAIN + loops
        way = ("aab", ((-1, "R1", 1), (1, "R1", 1), (1, "E", 0), (-1, "E", 1)))
        moves = self.listed(RULES, squares, way, 8)
        kinds = [move[0] for move in moves]
        self.assertEqual(sorted(set(kinds), key=kinds.index), ["drop", "exchange", "swap", "grow"])
        self.assertEqual(moves[:2], [("drop", 0), ("exchange", 2, "right")])
        swaps = [move for move in moves if move[0] == "swap"]
        self.assertEqual(swaps[:4], [("swap", 0, "Z", 0, 0, 1), ("swap", 0, "Z", 0, 0, -1), ("swap", 0, "B", 1, 0, 1),
                                     ("swap", 0, "B", 1, 1, 1)])
        grows = [move for move in moves if move[0] == "grow"]
        words = way_words(RULES, way)
        self.assertEqual([move[1:] for move in grows],
                         [(at, step) for at, word in enumerate(words) for step in steps_at(RULES, word)])

    def test_both_sides_of_an_exchange(self):
        moves = list_moves(RULES, [], ("baab", ((1, "E", 1), (-1, "E", 1))), steps=2)
        self.assertEqual(moves, [("drop", 0), ("exchange", 0, "left"), ("exchange", 0, "right")])

    def test_squares_in_the_order_of_the_list_and_then_places(self):
        squares = [("Z", ("", ()), ("", ())), ("A", ("a", ()), ("a", ()))]
        moves = [move for move in self.listed(RULES, squares, ("aa", ()), 0)]
        self.assertEqual([move[2:4] for move in moves[::4]], [("Z", 0), ("Z", 1), ("Z", 2), ("A", 0), ("A", 1)])
        self.assertEqual([move[4:] for move in moves[:4]], [(0, 1), (0, -1), (1, 1), (1, -1)])

    def test_against_all_moves(self):
        for rules in [RULES, Rules("a", [("R1", "aa", "a")]), Rules("ab", [("R1", "aba", "b"), ("R2", "bba", "abb")])]:
            squares = plain_squares(rules) + [("L", ("aa", ()), ("aa", ()))]
            for begin in ["", "aa", "aaa", "a" + rules.letters[-1] + "a"]:
                way = (begin, ())
                for at in range(4):
                    for steps in [0, at, at + 1, at + 2, 120]:
                        self.listed(rules, squares, way, steps)
                    choices = steps_at(rules, way_words(rules, way)[-1])
                    way = (begin, way[1] + tuple(choices[at % 2:][:1]))

    def test_the_number_of_steps(self):
        self.assertEqual(list_moves(RULES, [], ("ba", ()), steps=0), [])
        self.assertEqual(list_moves(RULES, [], ("ba", ()), steps=1), [])
        self.assertEqual(list_moves(RULES, [], ("ba", ()), steps=2)[0], ("grow", 0, ON))
        self.assertEqual(list_moves(RULES, [], ("ba", (ON, BACK)), steps=0), [("drop", 0)])
        for steps in [-1, 121, HUGE, -HUGE]:
            self.refuses(BadNumber(steps), list_moves, RULES, [], ("ba", ()), steps=steps)
        way = ("ba", (ON, BACK) * 60)
        self.assertEqual(list_moves(RULES, [], way, steps=120), [("drop", at) for at in range(119)])
        self.assertEqual(list_moves(RULES, [], way, steps=117), [])

    def test_words_of_33_letters_are_left_out(self):
        rules = Rules("a", [("E", "aa", "")])
        self.assertEqual([move for move in list_moves(rules, [], ("a" * 31, ()), steps=2) if move[2][0] == -1], [])
        self.assertEqual(len(list_moves(rules, [], ("a" * 30, ()), steps=2)), 29 + 31)
        square = ("S", ("", ()), ("", ((-1, "E", 0), (1, "E", 0))))
        moves = list_moves(rules, [square], ("a" * 31, ()), steps=2)
        self.assertEqual([move for move in moves if move[0] == "swap"], [])
        way = ("b" + "a" * 30, ((1, "E", 1), (-1, "E", 0)))
        self.assertEqual(list_moves(RULES, [], way, steps=2), [])

    def test_400_and_401_moves(self):
        # Four swaps at each letter b for each of the squares, and one grow.
        squares = [(f"S{at}", ("b", ()), ("b", ())) for at in range(20)]
        rules = Rules("ab", [("B", "bbbbb", "a")])
        self.assertEqual(len(list_moves(rules, squares, ("bbbbb", ()), steps=1)), 400)
        self.refuses(TooMany(), list_moves, rules, squares, ("bbbbb", ()), steps=2)
        self.assertEqual(len(list_moves(rules, squares[1:], ("bbbbb", ()), steps=2)), 381)
        more = squares + [("T", ("bbbbb", ()), ("bbbbb", ()))]
        self.refuses(TooMany(), list_moves, rules, more, ("bbbbb", ()), steps=0)

    def test_many_grows(self):
        rules = Rules("a", [("E", "aa", ""), ("F", "aa", ""), ("T", "aaa", "aa")])
        for many in range(3, 31, 3):
            way = ("a" * many, ((1, "T", 0), (-1, "T", 0)))
            expected = sum([len(steps_at(rules, word)) for word in way_words(rules, way)]) + 1
            if expected > 400:
                self.refuses(TooMany(), list_moves, rules, [], way, steps=120)
            else:
                self.assertEqual(len(list_moves(rules, [], way, steps=120)), expected)
            self.assertEqual(list_moves(rules, [], way, steps=3), [("drop", 0)])

    def test_errors_in_order(self):
        wrong = ("q", ("", ()), ("", ()))
        self.refuses(BadSquare("q"), list_moves, RULES, [wrong], ("?", ()), steps=-1)
        self.refuses(BadWord("?"), list_moves, RULES, [], ("?", ()), steps=-1)
        self.refuses(TooLong(), list_moves, RULES, [], ("ba", (ON, BACK) * 61), steps=-1)
        self.refuses(BadNumber(-1), list_moves, RULES, [], ("ba", ()), steps=-1)

    def test_a_listed_move_fits_and_others_do_not(self):
        moves = list_moves(RULES, PLAIN, WAY, steps=6)
        for move in all_moves(RULES, PLAIN, WAY):
            if move not in moves:
                self.refuses(BadMove(0), do_move, RULES, PLAIN, WAY, move)


if __name__ == "__main__":
    unittest.main()
