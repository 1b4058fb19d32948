"""Points 50 to 55: single moves and rows of moves of moves.py."""

import itertools
import random
import unittest

from helpers import Case
from wayfill.errors import BadMove, BadSquare, BadStep, BadWord, Repeated, TooLong, TooMany, Unknown, WayfillError
from wayfill.moves import do_move, do_moves, leads, list_moves, move_fits, turn_move, turn_moves
from wayfill.rules import Rules
from wayfill.squares import plain_squares
from wayfill.steps import steps_at
from wayfill.ways import is_way, set_way, turn_way, way_end

RULES = Rules("ab", [("R1", "ba", "ab"), ("E", "aa", ""), ("G", "b", "aaa")], weights=[1, 9])
ON = (1, "R1", 0)
BACK = (-1, "R1", 0)
HUGE = 10 ** 18 - 1

# "bab" becomes "abb", "aaaab", "aab", "b".
DOWN = ("bab", ((1, "R1", 0), (1, "G", 1), (1, "E", 0), (1, "E", 0)))

# From "baa" to "b", and a loop square at "ab".
LEGS = (("baa", ((1, "R1", 0), (1, "R1", 1), (1, "E", 0))), ("baa", ((1, "E", 1),)))
SQUARES = [("Q", LEGS[0], LEGS[1]), ("L", ("ab", ((-1, "R1", 0), (1, "R1", 0))), ("ab", ())),
           ("I", ("", ()), ("", ((-1, "E", 0), (1, "E", 0))))]


def to_and_fro(many):
    """A way with so many steps, from "ba" on."""
    return "ba", (ON, BACK) * (many // 2) + (ON,) * (many % 2)


class MoveCase(Case):

    def done(self, way, move, expected, rules=RULES, squares=SQUARES):
        """The move fits and leads there, and the move turned about leads back."""
        self.judges(True, move_fits, rules, squares, way, move)
        self.assertEqual(do_move(rules, squares, way, move), expected)
        self.judges(True, leads, rules, squares, way, [move], expected)
        turned = turn_move(rules, squares, way, move)
        self.assertEqual(do_move(rules, squares, expected, turned), way)
        self.assertEqual(turn_move(rules, squares, expected, turned), move)
        self.assertEqual(way_end(rules, expected), way_end(rules, way))

    def refused(self, way, move, error=None, rules=RULES, squares=SQUARES):
        self.judges(False, move_fits, rules, squares, way, move)
        for call in [do_move, turn_move]:
            self.refuses(error or BadMove(0), call, rules, squares, way, move)
        for call in [do_moves, turn_moves]:
            self.refuses(error or BadMove(0), call, rules, squares, way, [move])
        self.judges(False, leads, rules, squares, way, [move], way)


class TestDrops(MoveCase):

    WAY = ("ba", (ON, BACK, ON, (1, "G", 1), (-1, "G", 1)))

    def test_at_every_index(self):
        self.done(self.WAY, ("drop", 0), ("ba", (ON, (1, "G", 1), (-1, "G", 1))))
        self.done(self.WAY, ("drop", 1), ("ba", (ON, (1, "G", 1), (-1, "G", 1))))
        self.done(self.WAY, ("drop", 3), ("ba", (ON, BACK, ON)))
        for at in [2, 4, 5, 6, -1, -2, -5, HUGE, -HUGE]:
            self.refused(self.WAY, ("drop", at))
        self.assertEqual(turn_move(RULES, [], self.WAY, ("drop", 1)), ("grow", 1, BACK))

    def test_steps_that_do_not_lead_back(self):
        self.refused(("baa", ((1, "E", 1), (-1, "E", 0))), ("drop", 0))
        self.refused(("baba", ((1, "R1", 0), (-1, "R1", 0))), ("drop", 1))
        self.refused(("bba", ((1, "R1", 1), (1, "R1", 0))), ("drop", 0))
        self.refused(("", ()), ("drop", 0))
        self.refused(("ba", (ON,)), ("drop", 0))
        rules = Rules("ab", [("R1", "ba", "ab"), ("R2", "ba", "ab")])
        self.refused(("ba", ((1, "R1", 0), (-1, "R2", 0))), ("drop", 0), rules=rules, squares=[])

    def test_one_of_120_steps(self):
        self.done(to_and_fro(120), ("drop", 118), to_and_fro(118))
        self.done(to_and_fro(120), ("drop", 1), to_and_fro(118))
        self.refused(to_and_fro(120), ("drop", 119))


class TestGrows(MoveCase):

    def test_at_every_index(self):
        step = (-1, "E", 1)
        for at in range(5):
            result = DOWN[0], DOWN[1][:at] + (step, (1, "E", 1)) + DOWN[1][at:]
            self.done(DOWN, ("grow", at, step), result)
        for at in [5, 6, -1, -4, -5, HUGE, -HUGE]:
            self.refused(DOWN, ("grow", at, step))
        self.assertEqual(turn_move(RULES, [], DOWN, ("grow", 4, step)), ("drop", 4))

    def test_the_step_stands_in_the_word_before_it(self):
        self.done(DOWN, ("grow", 1, (1, "G", 2)), ("bab", (ON, (1, "G", 2), (-1, "G", 2)) + DOWN[1][1:]))
        self.refused(DOWN, ("grow", 0, (1, "G", 1)))
        self.refused(DOWN, ("grow", 4, (1, "G", 1)))
        self.done(("", ()), ("grow", 0, (-1, "E", 0)), ("", ((-1, "E", 0), (1, "E", 0))))
        self.refused(("", ()), ("grow", 0, (-1, "E", 1)))

    def test_wrong_steps(self):
        for step in [(5, "R1", 0), (0, "R1", 0), (1, "R9", 0), (1, "", 0), (1, "R1", -1), (1, "R1", HUGE),
                     (-1, "R1", 0), (-1, "E", -1), (-1, "E", 4), (1, "R1", 1)]:
            self.refused(("bab", ()), ("grow", 0, step))

    def test_words_of_32_and_33_letters(self):
        self.done(("a" * 30, ()), ("grow", 0, (-1, "E", 7)), ("a" * 30, ((-1, "E", 7), (1, "E", 7))))
        self.refused(("a" * 31, ()), ("grow", 0, (-1, "E", 7)), TooLong())
        # A step that does not stand there is a bad move, whatever its result would be.
        self.refused(("a" * 31, ()), ("grow", 0, (-1, "E", 32)))
        self.refused(("a" * 31, ()), ("grow", 1, (-1, "E", 7)))

    def test_120_and_121_steps(self):
        self.done(to_and_fro(118), ("grow", 118, ON), to_and_fro(120))
        for many in [119, 120]:
            self.refused(to_and_fro(many), ("grow", 0, ON), TooLong())
            self.refused(to_and_fro(many), ("grow", 0, BACK))


class TestExchanges(MoveCase):

    def test_steps_apart(self):
        # "bbaba": the first step on the right, and the second one on the left.
        self.done(("babba", ((1, "R1", 3), (1, "R1", 0))), ("exchange", 0, "left"),
                  ("babba", ((1, "R1", 0), (1, "R1", 3))))
        self.done(("babba", ((1, "R1", 0), (1, "R1", 3))), ("exchange", 0, "right"),
                  ("babba", ((1, "R1", 3), (1, "R1", 0))))
        self.refused(("babba", ((1, "R1", 3), (1, "R1", 0))), ("exchange", 0, "right"))
        self.refused(("babba", ((1, "R1", 0), (1, "R1", 3))), ("exchange", 0, "left"))

    def test_places_move(self):
        # Left: the first place p becomes p - j + k. Right: the second place q becomes q - o + i.
        self.done(("bab", ((1, "G", 2), (1, "G", 0))), ("exchange", 0, "left"), ("bab", ((1, "G", 0), (1, "G", 4))))
        self.done(("bab", ((1, "G", 0), (1, "G", 4))), ("exchange", 0, "right"), ("bab", ((1, "G", 2), (1, "G", 0))))
        self.done(("aabb", ((1, "E", 0), (1, "G", 1))), ("exchange", 0, "right"), ("aabb", ((1, "G", 3), (1, "E", 0))))
        self.done(("aabb", ((1, "G", 2), (1, "E", 0))), ("exchange", 0, "left"), ("aabb", ((1, "E", 0), (1, "G", 0))))
        self.done(("aaab", ((-1, "G", 0), (1, "G", 1))), ("exchange", 0, "right"),
                  ("aaab", ((1, "G", 3), (-1, "G", 0))))

    def test_steps_side_by_side_and_steps_that_touch(self):
        self.done(("baba", ((1, "R1", 2), (1, "R1", 0))), ("exchange", 0, "left"),
                  ("baba", ((1, "R1", 0), (1, "R1", 2))))
        self.refused(("bba", ((1, "R1", 1), (1, "R1", 0))), ("exchange", 0, "left"))
        self.refused(("bba", ((1, "R1", 1), (1, "R1", 0))), ("exchange", 0, "right"))
        self.refused(("ba", (ON, BACK)), ("exchange", 0, "left"))
        self.refused(("ba", (ON, BACK)), ("exchange", 0, "right"))
        self.refused(("baa", ((1, "R1", 0), (1, "R1", 1))), ("exchange", 0, "right"))

    def test_at_every_index(self):
        way = ("babab", ((1, "G", 2), (1, "G", 0), (1, "E", 6), (1, "E", 0)))
        self.done(way, ("exchange", 0, "left"), ("babab", ((1, "G", 0), (1, "G", 4)) + way[1][2:]))
        self.done(way, ("exchange", 1, "right"), ("babab", ((1, "G", 2), (1, "E", 4), (1, "G", 0), (1, "E", 0))))
        self.done(way, ("exchange", 2, "left"), ("babab", way[1][:2] + ((1, "E", 0), (1, "E", 4))))
        for side in ["left", "right"]:
            for at in [3, 4, 5, -1, -2, -4, HUGE, -HUGE]:
                self.refused(way, ("exchange", at, side))
            self.refused(("", ()), ("exchange", 0, side))

    def test_other_sides(self):
        for side in ["", "Left", "LEFT", "both", "up", "left "]:
            self.refused(("babba", ((1, "R1", 3), (1, "R1", 0))), ("exchange", 0, side))

    def test_both_sides_fit(self):
        # The output of the first and the input of the second step are empty, at the same place.
        way = ("baab", ((1, "E", 1), (-1, "E", 1)))
        self.done(way, ("exchange", 0, "left"), ("baab", ((-1, "E", 1), (1, "E", 3))))
        self.done(way, ("exchange", 0, "right"), ("baab", ((-1, "E", 3), (1, "E", 1))))
        # At other places one side fits alone.
        self.refused(("baab", ((1, "E", 1), (-1, "E", 0))), ("exchange", 0, "right"))
        self.refused(("baab", ((1, "E", 1), (-1, "E", 2))), ("exchange", 0, "left"))
        self.done(("baab", ((1, "E", 1), (-1, "E", 0))), ("exchange", 0, "left"),
                  ("baab", ((-1, "E", 0), (1, "E", 3))))

    def test_a_word_of_33_letters_between(self):
        fitting = "b" + "a" * 29
        self.done((fitting, ((1, "E", 1), (-1, "E", 0))), ("exchange", 0, "left"),
                  (fitting, ((-1, "E", 0), (1, "E", 3))))
        self.refused(("b" + "a" * 30, ((1, "E", 1), (-1, "E", 0))), ("exchange", 0, "left"), TooLong())
        self.refused(("b" + "a" * 30, ((1, "E", 1), (-1, "E", 0))), ("exchange", 0, "right"))

    def test_with_120_steps(self):
        way = ("babba", to_and_fro(118)[1] + ((1, "R1", 3), (1, "R1", 0)))
        self.done(way, ("exchange", 118, "left"), ("babba", to_and_fro(119)[1] + ((1, "R1", 3),)))


class TestSwaps(MoveCase):

    def placed(self, leg):
        """The steps of a leg of the first square, moved by 2."""
        return tuple((sign, name, place + 2) for sign, name, place in LEGS[leg][1])

    def test_either_leg_and_either_sign(self):
        for leg in (0, 1):
            way, other = [set_way(RULES, "ab", LEGS[one], "a") for one in (leg, 1 - leg)]
            self.done(way, ("swap", 0, "Q", 2, leg, 1), other)
            self.done(turn_way(RULES, way), ("swap", 0, "Q", 2, leg, -1), turn_way(RULES, other))
            for wrong in [("swap", 0, "Q", 2, 1 - leg, 1), ("swap", 0, "Q", 2, leg, -1), ("swap", 0, "Q", 1, leg, 1),
                          ("swap", 0, "Q", 3, leg, 1), ("swap", 0, "Q", -2, leg, 1), ("swap", 1, "Q", 2, leg, 1),
                          ("swap", -1, "Q", 2, leg, 1), ("swap", len(way[1]), "Q", 2, leg, 1),
                          ("swap", HUGE, "Q", 2, leg, 1), ("swap", 0, "Q", HUGE, leg, 1)]:
                self.refused(way, wrong)

    def test_at_the_begin_in_the_middle_and_at_the_end(self):
        before, after = (1, "R1", 0), (-1, "R1", 0)
        for leg in (0, 1):
            row, other = self.placed(leg), self.placed(1 - leg)
            for front, back in [((), ()), ((before, after), ()), ((), (before, after)), ((before,), (after,))]:
                way = "babaa", front + row + back
                self.done(way, ("swap", len(front), "Q", 2, leg, 1), ("babaa", front + other + back))

    def test_negative_places(self):
        square = ("S", ("aba", ((1, "R1", 1),)), ("aba", ((1, "R1", 1), (-1, "R1", 1), (1, "R1", 1))))
        way = ("ba", (ON,))
        self.judges(False, move_fits, RULES, [square], way, ("swap", 0, "S", -1, 0, 1))
        self.refuses(BadMove(0), do_move, RULES, [square], way, ("swap", 0, "S", -1, 0, 1))
        self.refuses(BadMove(0), do_move, RULES, SQUARES, ("a", ()), ("swap", 0, "I", -1, 0, 1))

    def test_the_begin_of_the_legs_has_to_stand_there(self):
        # The steps are right, but not the word around them.
        square = ("S", ("aba", ((1, "R1", 1),)), ("aba", ((1, "R1", 1), (-1, "R1", 1), (1, "R1", 1))))
        for word, right in [("aba", True), ("abab", True), ("bba", False)]:
            self.assertEqual(move_fits(RULES, [square], (word, ((1, "R1", 1),)), ("swap", 0, "S", 0, 0, 1)), right)
        for word, right in [("aab", True), ("bab", False)]:
            self.assertEqual(move_fits(RULES, [square], (word, ((-1, "R1", 1),)), ("swap", 0, "S", 0, 0, -1)), right)

    def test_an_empty_row_taken_out_or_put_in(self):
        # Between two empty words a row may come in anywhere.
        for at, place in itertools.product(range(2), range(3)):
            row = ((-1, "E", place), (1, "E", place))
            self.done(("ba", (ON,)), ("swap", at, "I", place, 0, 1), ("ba", (ON,)[:at] + row + (ON,)[at:]))
            self.done(("ba", (ON,)), ("swap", at, "I", place, 0, -1), ("ba", (ON,)[:at] + row + (ON,)[at:]))
        for at, place in [(0, 3), (1, 3), (2, 0), (-1, 0), (0, -1), (0, HUGE)]:
            self.refused(("ba", (ON,)), ("swap", at, "I", place, 0, 1))
        # The word of the empty leg has to stand there.
        for at, place, right in [(0, 0, False), (1, 0, True), (1, 1, False), (0, 1, True), (2, 0, False)]:
            if right:
                row = ((-1, "R1", place), (1, "R1", place))
                self.done(("bab", (ON,)), ("swap", at, "L", place, 1, 1), ("bab", (ON,)[:at] + row + (ON,)[at:]))
                self.done(("bab", (ON,)), ("swap", at, "L", place, 1, -1), ("bab", (ON,)[:at] + row + (ON,)[at:]))
            else:
                self.refused(("bab", (ON,)), ("swap", at, "L", place, 1, 1))
        self.done(("ab", (BACK, ON)), ("swap", 0, "L", 0, 0, 1), ("ab", ()))

    def test_other_legs_signs_and_names(self):
        way = LEGS[0]
        self.done(way, ("swap", 0, "Q", 0, 0, 1), LEGS[1])
        for leg, sign in [(2, 1), (-1, 1), (-2, 1), (0, 0), (0, 2), (0, -2), (HUGE, 1), (0, HUGE), (5, 5)]:
            self.refused(way, ("swap", 0, "Q", 0, leg, sign))
        for name in ["", "Q2", "q", "R1", "?"]:
            self.refused(way, ("swap", 0, name, 0, 0, 1))

    def test_equal_legs(self):
        square = ("S", LEGS[0], LEGS[0])
        self.assertEqual(do_move(RULES, [square], LEGS[0], ("swap", 0, "S", 0, 0, 1)), LEGS[0])
        self.assertEqual(turn_move(RULES, [square], LEGS[0], ("swap", 0, "S", 0, 0, 1)), ("swap", 0, "S", 0, 1, 1))

    def test_words_of_33_letters_and_121_steps(self):
        self.done(("a" * 30, ()), ("swap", 0, "I", 9, 0, 1), ("a" * 30, ((-1, "E", 9), (1, "E", 9))))
        self.refused(("a" * 31, ()), ("swap", 0, "I", 9, 0, 1), TooLong())
        self.refused(("a" * 31, ()), ("swap", 0, "I", 32, 0, 1))
        # The longer leg has two steps more.
        loops = ((-1, "E", 0), (1, "E", 0)) * 58
        down = ((1, "R1", 1), (1, "R1", 2), (1, "E", 1))
        for further, error in [((), None), (((-1, "E", 0),), None), (((-1, "E", 0), (1, "E", 0)), TooLong())]:
            way = "abaa", loops + ((1, "E", 2),) + further
            if error is None:
                self.done(way, ("swap", 116, "Q", 1, 1, 1), ("abaa", loops + down + further))
            else:
                self.refused(way, ("swap", 116, "Q", 1, 1, 1), error)


class TestOtherMoves(MoveCase):

    def test_unknown_kinds(self):
        for move in [("", 0), ("Drop", 0), ("swap ", 0, "Q", 0, 0, 1), ("turn",), ("?", "?", "?", "?"),
                     ("exchanges", 0, "left")]:
            self.refused(LEGS[0], move)

    def test_errors_in_order(self):
        wrong = ("?", (ON,))
        for call in [do_move, turn_move]:
            self.refuses(TooMany(), call, RULES, [SQUARES[0]] * 41, wrong, ("?",))
            self.refuses(BadSquare("q"), call, RULES, [("q", LEGS[0], LEGS[1])], wrong, ("?",))
            self.refuses(Repeated("Q"), call, RULES, [SQUARES[0]] * 2, wrong, ("?",))
            self.refuses(BadWord("?"), call, RULES, SQUARES, wrong, ("?",))
            self.refuses(Unknown("R9"), call, RULES, SQUARES, ("ba", ((1, "R9", 0),)), ("?",))
            self.refuses(BadStep(1), call, RULES, SQUARES, ("ba", (ON, ON)), ("?",))
            self.refuses(TooLong(), call, RULES, SQUARES, to_and_fro(121), ("?",))
        for squares, way in [([SQUARES[0]] * 2, LEGS[0]), (SQUARES, wrong), (SQUARES, to_and_fro(121))]:
            self.judges(False, move_fits, RULES, squares, way, ("grow", 0, (-1, "E", 0)))


class TestRows(MoveCase):

    def test_done_one_after_another(self):
        moves = [("grow", 3, (1, "G", 0)), ("swap", 0, "Q", 0, 0, 1), ("drop", 1), ("grow", 1, (-1, "E", 1)),
                 ("exchange", 0, "left")]
        ways = [LEGS[0]]
        for move in moves:
            ways.append(do_move(RULES, SQUARES, ways[-1], move))
        self.assertEqual(ways[-1], ("baa", ((-1, "E", 1), (1, "E", 3), (1, "E", 1))))
        for many in range(6):
            self.assertEqual(do_moves(RULES, SQUARES, LEGS[0], moves[:many]), ways[many])
            turned = turn_moves(RULES, SQUARES, LEGS[0], moves[:many])
            self.assertEqual(do_moves(RULES, SQUARES, ways[many], turned), LEGS[0])
            self.assertEqual(turn_moves(RULES, SQUARES, ways[many], turned), moves[:many])
            self.judges(True, leads, RULES, SQUARES, LEGS[0], moves[:many], ways[many])
            self.judges(True, leads, RULES, SQUARES, ways[many], turned, LEGS[0])
        self.assertEqual(turn_moves(RULES, SQUARES, LEGS[0], moves),
                         [("exchange", 0, "right"), ("drop", 1), ("grow", 1, (1, "G", 0)), ("swap", 0, "Q", 0, 1, 1),
                          ("drop", 3)])

    def test_the_index_of_a_bad_move(self):
        grow = ("grow", 0, ON)
        for moves, at in [([("drop", 0)], 0), ([grow, ("drop", 1)], 1), ([grow, grow, ("swap", 0, "?", 0, 0, 1)], 2),
                          ([grow] * 9 + [("?",)], 9)]:
            for call in [do_moves, turn_moves]:
                self.refuses(BadMove(at), call, RULES, SQUARES, ("ba", ()), moves + [("drop", 99)])
            self.judges(False, leads, RULES, SQUARES, ("ba", ()), moves, ("ba", ()))

    def test_too_long_on_the_way(self):
        moves = [("grow", 0, (-1, "E", 0)), ("drop", 0)]
        for call in [do_moves, turn_moves]:
            self.refuses(TooLong(), call, RULES, [], ("a" * 31, ()), moves)
            self.refuses(TooLong(), call, RULES, [], ("ba", ()), [("grow", 0, ON)] * 61 + [("?",)])
            self.refuses(BadMove(60), call, RULES, [], ("ba", ()), [("grow", 0, ON)] * 60 + [("?",)])
        self.judges(False, leads, RULES, [], ("a" * 31, ()), moves, ("a" * 31, ()))

    def test_400_and_401_moves(self):
        moves = [("grow", 0, ON), ("drop", 0)] * 200
        self.assertEqual(do_moves(RULES, [], ("ba", ()), moves), ("ba", ()))
        self.assertEqual(turn_moves(RULES, [], ("ba", ()), moves), [("grow", 0, ON), ("drop", 0)] * 200)
        self.judges(True, leads, RULES, [], ("ba", ()), moves, ("ba", ()))
        for many in [moves + [("grow", 0, ON)], [("?",)] + moves, [("?",)] * 1000]:
            for call in [do_moves, turn_moves]:
                self.refuses(TooMany(), call, RULES, [], ("ba", ()), many)
                # The errors of the way come before, those of the moves behind.
                self.refuses(BadWord("?"), call, RULES, [], ("?", ()), many)
        self.judges(False, leads, RULES, [], ("ba", ()), moves + [("grow", 0, ON)], ("ba", (ON, BACK)))

    def test_leads_judges_all_arguments(self):
        self.judges(True, leads, RULES, SQUARES, ("ba", ()), [], ("ba", ()))
        self.judges(False, leads, RULES, SQUARES, ("ba", ()), [], ("ba", (ON, BACK)))
        self.judges(False, leads, RULES, SQUARES, ("ba", ()), [], ("ab", ()))
        self.judges(False, leads, RULES, SQUARES, ("?", ()), [], ("?", ()))
        self.judges(False, leads, RULES, SQUARES, to_and_fro(121), [], to_and_fro(121))
        self.judges(False, leads, RULES, SQUARES + SQUARES, ("ba", ()), [], ("ba", ()))
        self.judges(False, leads, RULES, [SQUARES[0]] * 41, ("ba", ()), [], ("ba", ()))
        self.judges(False, leads, RULES, [("q", LEGS[0], LEGS[1])], ("ba", ()), [], ("ba", ()))

    def test_an_empty_row(self):
        self.assertEqual(do_moves(RULES, SQUARES, DOWN, []), DOWN)
        self.assertEqual(turn_moves(RULES, SQUARES, DOWN, []), [])


class TestAnyMoves(MoveCase):

    SAMPLES = [Rules("a", [("R1", "aa", "a")]), Rules("ab", [("R1", "ba", "ab"), ("R2", "aa", "")]),
               Rules("ab", [("R1", "aba", "b"), ("R2", "bba", "abb")])]

    def setUp(self):
        self.luck = random.Random(5)

    def way(self, rules):
        word = begin = "".join(self.luck.choice(rules.letters) for _ in range(self.luck.randrange(7)))
        steps = []
        for _ in range(self.luck.randrange(6)):
            choices = steps_at(rules, word)
            if choices:
                steps.append(self.luck.choice(choices))
                word = way_end(rules, (begin, tuple(steps)))
        return begin, tuple(steps)

    def move(self, rules, squares):
        luck = self.luck
        at = luck.randrange(-2, 9)
        step = luck.choice([1, -1, 1, -1, 3]), luck.choice(rules.names + ["?"]), luck.randrange(-1, 7)
        return luck.choice([("drop", at), ("grow", at, step), ("exchange", at, luck.choice(["left", "right", "?"])),
                            ("swap", at, luck.choice([square[0] for square in squares] + ["?"]),
                             luck.randrange(-1, 4), luck.randrange(-1, 3), luck.choice([1, -1, 0]))])

    def test_moves_that_fit_and_only_they_are_listed(self):
        for rules in self.SAMPLES:
            squares = plain_squares(rules)
            for _ in range(60):
                way = self.way(rules)
                listed = list_moves(rules, squares, way, steps=20)
                for move in listed:
                    result = do_move(rules, squares, way, move)
                    self.judges(True, is_way, rules, result)
                    self.done(way, move, result, rules, squares)
                for _ in range(60):
                    move = self.move(rules, squares)
                    self.assertEqual(move_fits(rules, squares, way, move), move in listed)

    def test_judges_raise_nothing(self):
        for rules in self.SAMPLES:
            squares = plain_squares(rules)
            for _ in range(300):
                way = self.way(rules)
                way = self.luck.choice([way, way, ("?", way[1]), (way[0], way[1] + ((1, "?", 0),))])
                some = self.luck.choice([squares, squares + squares, squares * 41])
                move = self.move(rules, squares)
                self.assertIsInstance(move_fits(rules, some, way, move), bool)
                self.assertIsInstance(leads(rules, some, way, [move] * self.luck.choice([1, 2, 401]), way), bool)
                self.assertEqual(move_fits(rules, some, way, move), self.succeeds(do_move, rules, some, way, move))

    def succeeds(self, call, *args):
        try:
            call(*args)
        except WayfillError:
            return False
        return True


if __name__ == "__main__":
    unittest.main()
