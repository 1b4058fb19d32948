"""Points 58 to 64: fill.py."""

import random
import unittest

from helpers import Case
from wayfill.down import down_way, normal_way
from wayfill.errors import BadEnds, BadSquare, BadStep, BadWord, Lacking, TooLong, TooMany
from wayfill.fill import fill_between, fill_loop, first_peak, flatten, settle, square_uses, used_squares
from wayfill.moves import do_moves, turn_moves
from wayfill.overlaps import meeting
from wayfill.rules import Rules
from wayfill.squares import exchange_legs, plain_squares
from wayfill.steps import do_step, steps_at, turn_step
from wayfill.ways import turn_way, way_end, way_words

RULES = Rules("ab", [("R1", "ba", "ab"), ("E", "aa", "")])
PLAIN = plain_squares(RULES)
ON = (1, "R1", 0)
BACK = (-1, "R1", 0)

SAMPLES = [
    Rules("ab", []),
    RULES,
    Rules("a", [("R1", "aa", "a")]),
    Rules("a", [("R1", "aaa", "a"), ("R2", "aaaa", "aa")]),
    Rules("ab", [("R1", "aba", "b"), ("R2", "bba", "abb")]),
    Rules("ab", [("R1", "ab", ""), ("R2", "ba", "")]),
    Rules("abc", [("A", "ba", "ab"), ("B", "ca", "ac"), ("C", "cb", "bc")]),
]


def to_and_fro(many):
    """A way with so many steps, from "ba" on."""
    return "ba", (ON, BACK) * (many // 2) + (ON,) * (many % 2)


def some_way(luck, rules, most, letters=6):
    """A way with at most so many steps, whose begin has at most so many letters."""
    word = begin = "".join(luck.choice(rules.letters) for _ in range(luck.randrange(letters + 1)))
    steps = []
    for _ in range(luck.randrange(most + 1)):
        choices = [step for step in steps_at(rules, word) if len(do_step(rules, word, step)) <= 9]
        if choices:
            steps.append(luck.choice(choices))
            word = do_step(rules, word, steps[-1])
    return begin, tuple(steps)


def moves_for_a_peak(rules, squares, way, at):
    """The moves of point 59 for the peak at this index, as the point tells them."""
    before, after = turn_step(way[1][at]), way[1][at + 1]
    kind, place, overlap = meeting(rules, way_words(rules, way)[at + 1], before, after)
    if kind == "same":
        return [("drop", at)]
    if kind == "apart":
        end = after[2] + len(rules.left_of(after[1]))
        return [("exchange", at, "left" if end <= before[2] else "right")]
    begin = after[0], after[1], after[2] - place
    for name, *legs in squares:
        begins = [leg[1][0] for leg in legs if leg[1]]
        if legs[0][0] == overlap[0] and begins in ([overlap[1], overlap[2]], [overlap[2], overlap[1]]):
            if all(step[0] == 1 for leg in legs for step in leg[1]):
                leg = begins.index(begin)
                further = [(sign, other, spot + place) for sign, other, spot in legs[leg][1][1:]]
                return ([("grow", at + 2 + index, step) for index, step in enumerate(further)]
                        + [("swap", at + 1, name, place, leg, 1), ("drop", at)])
    return None


def flattened(rules, squares, way):
    """The flat way and the moves, by the words of point 59."""
    done = []
    while first_peak(rules, way) is not None:
        moves = moves_for_a_peak(rules, squares, way, first_peak(rules, way))
        done += moves
        way = do_moves(rules, squares, way, moves)
    return way, done


class TestPeaks(Case):

    def test_first_peaks(self):
        self.assertIsNone(first_peak(RULES, ("ab", ())))
        self.assertIsNone(first_peak(RULES, ("ba", (ON,))))
        self.assertIsNone(first_peak(RULES, ("ab", (BACK,))))
        self.assertIsNone(first_peak(RULES, ("ba", (ON, BACK))))
        self.assertEqual(first_peak(RULES, ("ab", (BACK, ON))), 0)
        self.assertEqual(first_peak(RULES, ("ba", (ON, BACK, ON, BACK, ON))), 1)
        self.assertEqual(first_peak(RULES, ("", ((-1, "E", 0), (-1, "E", 0), (1, "E", 0)))), 1)
        self.assertEqual(first_peak(RULES, to_and_fro(120)), 1)

    def test_errors(self):
        self.refuses(BadStep(1), first_peak, RULES, ("ba", (ON, ON)))
        self.refuses(TooLong(), first_peak, RULES, to_and_fro(121))


class TestFlattening(Case):

    def test_flat_ways(self):
        for way in [("ab", ()), ("ba", (ON, BACK)), ("baa", (ON, (1, "R1", 1), (-1, "E", 2)))]:
            self.assertEqual(flatten(RULES, [], way), (way, []))

    def test_equal_steps(self):
        self.assertEqual(flatten(RULES, [], ("ab", (BACK, ON))), (("ab", ()), [("drop", 0)]))
        self.assertEqual(flatten(RULES, [], ("ba", (ON, BACK, ON))), (("ba", (ON,)), [("drop", 1)]))

    def test_steps_apart_on_either_side(self):
        left = ("baab", ((-1, "R1", 2), (1, "R1", 0)))
        self.assertEqual(flatten(RULES, [], left),
                         (("baab", ((1, "R1", 0), (-1, "R1", 2))), [("exchange", 0, "left")]))
        right = ("abba", ((-1, "R1", 0), (1, "R1", 2)))
        self.assertEqual(flatten(RULES, [], right),
                         (("abba", ((1, "R1", 2), (-1, "R1", 0))), [("exchange", 0, "right")]))
        # Side by side, with places that move.
        self.assertEqual(flatten(RULES, [], ("aa", ((-1, "E", 0), (1, "E", 2)))),
                         (("aa", ((1, "E", 0), (-1, "E", 0))), [("exchange", 0, "right")]))
        self.assertEqual(flatten(RULES, [], ("aa", ((-1, "E", 2), (1, "E", 0)))),
                         (("aa", ((1, "E", 0), (-1, "E", 0))), [("exchange", 0, "left")]))

    def test_an_overlap_that_a_square_answers_by_either_leg(self):
        # In "abaab" the step E stands at 2 and R1 at 1.
        way = ("abb", ((-1, "E", 2), (1, "R1", 1)))
        turned = ("aabab", ((-1, "R1", 1), (1, "E", 2)))
        long_leg, short_leg = PLAIN[0][1:]
        for squares, leg in [(PLAIN, 0), ([exchange_legs(PLAIN[0])], 1)]:
            flat, moves = flatten(RULES, squares, way)
            self.assertEqual(moves, [("grow", 2, (1, "R1", 2)), ("grow", 3, (1, "E", 1)),
                                     ("swap", 1, "Q1", 1, leg, 1), ("drop", 0)])
            self.assertEqual(flat, ("abb", ((-1, "E", 1), (-1, "R1", 2))))
            flat, moves = flatten(RULES, squares, turned)
            self.assertEqual(moves, [("swap", 1, "Q1", 1, 1 - leg, 1), ("drop", 0)])
            self.assertEqual(flat, ("aabab", ((1, "R1", 2), (1, "E", 1))))
        self.assertEqual((len(long_leg[1]), len(short_leg[1])), (3, 1))

    def test_the_first_square_that_answers(self):
        way = ("aabab", ((-1, "R1", 1), (1, "E", 2)))
        further = [("W", ("baa", ()), ("baa", ())), ("S", PLAIN[0][2], PLAIN[0][1]), PLAIN[0]]
        self.assertEqual(flatten(RULES, further, way)[1][0], ("swap", 1, "S", 1, 0, 1))

    def test_lacking(self):
        overlap = ("baa", (1, "R1", 0), (1, "E", 1))
        for way in [("abb", ((-1, "E", 2), (1, "R1", 1))), ("aabab", ((-1, "R1", 1), (1, "E", 2)))]:
            self.refuses(Lacking(*overlap), flatten, RULES, [], way)
            self.refuses(Lacking(*overlap), flatten, RULES, PLAIN[1:], way)
        # Earlier peaks are treated, and squares for later ones are not looked for.
        twice = ("abb", ((-1, "R1", 0), (1, "R1", 0), (-1, "E", 2), (1, "R1", 1)))
        self.refuses(Lacking(*overlap), flatten, RULES, [], twice)

    def test_against_the_words_of_the_point(self):
        luck = random.Random(3)
        for rules in SAMPLES:
            squares = plain_squares(rules)
            turned = [exchange_legs(square) if luck.random() < 0.5 else square for square in squares]
            for _ in range(80):
                way = some_way(luck, rules, 7)
                for some in [squares, turned, squares[::-1]]:
                    self.assertEqual(flatten(rules, some, way), flattened(rules, some, way))

    def test_errors_in_order(self):
        wrong = ("q", ("", ()), ("", ()))
        for call in [flatten, settle, fill_loop]:
            self.refuses(BadSquare("q"), call, RULES, [wrong], ("?", ()))
            self.refuses(BadWord("?"), call, RULES, PLAIN, ("?", ()))
            self.refuses(TooMany(), call, RULES, [wrong] * 41, ("?", ()))
            self.refuses(TooLong(), call, RULES, PLAIN, to_and_fro(121))

    def test_120_and_121_steps(self):
        # The two further steps of the longer leg make four steps more for a while.
        for many in [56, 57, 58, 59]:
            way = ("abb", ((-1, "E", 2), (1, "R1", 1)) + ((1, "R1", 2), (-1, "R1", 2)) * many)
            if len(way[1]) + 4 <= 120:
                self.assertIsNone(first_peak(RULES, flatten(RULES, PLAIN, way)[0]))
            else:
                self.refuses(TooLong(), flatten, RULES, PLAIN, way)

    def test_a_word_of_33_letters(self):
        rules = Rules("abcd", [("X", "b", "aaa"), ("Y", "c", "ddd")], weights=[1, 9, 9, 1])
        for many, error in [(26, False), (27, True)]:
            way = ("b" + "d" * 3 + "a" * many, ((-1, "Y", 1), (1, "X", 0)))
            self.assertLessEqual(max(map(len, way_words(rules, way))), 31)
            if error:
                self.refuses(TooLong(), flatten, rules, [], way)
            else:
                self.assertEqual(flatten(rules, [], way)[1], [("exchange", 0, "left")])


class TestSettling(Case):

    def test_the_example(self):
        rules = Rules("a", [("R1", "aa", "a")])
        moves = settle(rules, plain_squares(rules), ("aaa", ((1, "R1", 1),)))
        self.assertEqual(moves, [("grow", 0, (1, "R1", 0)), ("grow", 1, (1, "R1", 0)), ("grow", 5, (1, "R1", 0)),
                                 ("grow", 5, (1, "R1", 0)), ("swap", 4, "Q1", 0, 1, 1), ("drop", 3), ("drop", 2),
                                 ("drop", 2)])

    def test_the_result_is_the_normal_way(self):
        luck = random.Random(7)
        for rules in SAMPLES:
            squares = plain_squares(rules)
            for _ in range(60):
                way = some_way(luck, rules, 8)
                for some in [squares, [exchange_legs(square) for square in squares]]:
                    moves = settle(rules, some, way)
                    end = way_end(rules, way)
                    self.assertEqual(do_moves(rules, some, way, moves), normal_way(rules, way[0], end))
                    self.assertEqual(moves, self.expected(rules, some, way))

    def expected(self, rules, squares, way):
        """The moves by the words of point 61."""
        down, end_down = down_way(rules, way[0])[1], down_way(rules, way_end(rules, way))[1]
        begin = len(way[1]) + 2 * len(down)
        moves = [("grow", at, step) for at, step in enumerate(down)]
        moves += [("grow", begin + at, step) for at, step in enumerate(end_down)]
        return moves + flattened(rules, squares, do_moves(rules, squares, way, moves))[1]

    def test_flat_ways_are_settled_as_well(self):
        # The normal way from a word to itself is not the empty way.
        moves = settle(RULES, PLAIN, ("ba", ()))
        self.assertEqual(moves, [("grow", 0, ON), ("grow", 2, ON), ("drop", 1)])
        self.assertEqual(settle(RULES, PLAIN, ("ab", ())), [])

    def test_errors_of_going_down_come_first(self):
        rows = [("C", "c", "b" * 8), ("B", "b", "a" * 8), ("X", "d", "c"), ("Y", "d", "")]
        rules = Rules("abcd", rows, weights=[1, 9, 80, 99])
        # The begin and the end cannot go down, and the peak between would lack a square.
        for way in [("c", ((-1, "X", 0), (1, "Y", 0))), ("", ((-1, "Y", 0), (1, "X", 0)))]:
            self.refuses(TooLong(), settle, rules, [], way)
            self.refuses(Lacking("d", (1, "X", 0), (1, "Y", 0)), flatten, rules, [], way)

    def test_lacking(self):
        for call in [settle]:
            self.refuses(Lacking("baa", (1, "R1", 0), (1, "E", 1)), call, RULES, [], ("baa", ((1, "E", 1),)))

    def test_121_steps(self):
        # Growing the one step down from "ba" at both ends of a loop there.
        for many, right in [(116, True), (118, False), (120, False)]:
            way = to_and_fro(many)
            if right:
                self.assertEqual(do_moves(RULES, PLAIN, way, settle(RULES, PLAIN, way)), ("ba", (ON, BACK)))
            else:
                self.refuses(TooLong(), settle, RULES, PLAIN, way)


MIXED = Rules("ab", [("A", "a", ""), ("B", "b", "")])


def taken_out(costs):
    """Steps that put letters a before letters b and take out the letters b, each behind so many letters a."""
    steps, letters = [], 0
    for cost in costs:
        steps += [(-1, "A", 0)] * (cost - letters) + [(1, "B", cost)]
        letters = cost
    return tuple(steps)


def costs_of(number, last=31):
    """20 numbers, ascending up to the last one, with this sum; with 31 a word of 32 letters is just enough for them."""
    costs = list(range(last - 19, last + 1))
    excess = sum(costs) - number
    for at in range(20):
        less = min(excess, costs[at])
        costs[at] -= less
        excess -= less
    return costs


def long_loop(number, before=""):
    """A loop at the word `before` that takes so many exchanges and then 51 drops, or 50 beside a letter."""
    last = 31 - len(before)
    steps = ((-1, "B", 0),) * 20 + taken_out(costs_of(number, last)) + ((1, "A", 0),) * last
    return before, tuple((sign, name, place + len(before)) for sign, name, place in steps)


class TestManyMoves(Case):

    def test_400_and_401_moves_while_flattening(self):
        for number in [256, 399, 400]:
            flat, moves = flatten(MIXED, [], ("b" * 20, taken_out(costs_of(number))))
            self.assertEqual(len(moves), number)
            self.assertEqual({move[0] for move in moves}, {"exchange"})
            self.assertIsNone(first_peak(MIXED, flat))
        for number in [401, 430]:
            self.refuses(TooMany(), flatten, MIXED, [], ("b" * 20, taken_out(costs_of(number))))

    def test_400_and_401_moves_while_settling(self):
        for call in [settle, fill_loop]:
            self.assertEqual(len(call(MIXED, [], long_loop(349))), 400)
            self.assertEqual(do_moves(MIXED, [], long_loop(349), call(MIXED, [], long_loop(349))), ("", ()))
            self.refuses(TooMany(), call, MIXED, [], long_loop(350))

    def test_the_drops_in_the_middle_count_as_well(self):
        # The grows of one step down at both ends, and a drop where they meet: three moves more, then the drop.
        for number in [300, 346, 347]:
            self.assertEqual(len(settle(MIXED, [], long_loop(number, "a"))), number + 53)
        self.refuses(TooMany(), settle, MIXED, [], long_loop(348, "a"))
        self.assertEqual(len(fill_loop(MIXED, [], long_loop(346, "a"))), 400)
        self.refuses(TooMany(), fill_loop, MIXED, [], long_loop(347, "a"))

    def test_lacking_comes_before_too_many(self):
        rules = Rules("abc", [("A", "a", ""), ("B", "b", ""), ("C", "c", ""), ("D", "c", "")])
        peak = ((-1, "C", 0), (1, "D", 0))
        for number in [399, 400]:
            way = ("b" * 20, taken_out(costs_of(number)) + peak)
            self.refuses(Lacking("c", (1, "C", 0), (1, "D", 0)), flatten, rules, [], way)
        way = ("b" * 20, taken_out(costs_of(401)) + peak)
        self.refuses(TooMany(), flatten, rules, [], way)
        # The swap and the drop are two moves more.
        square = ("S", ("c", ((1, "C", 0),)), ("c", ((1, "D", 0),)))
        for number, right in [(397, True), (398, True), (399, False), (400, False)]:
            way = ("b" * 20, taken_out(costs_of(number)) + peak)
            if right:
                self.assertEqual(len(flatten(rules, [square], way)[1]), number + 2)
            else:
                self.refuses(TooMany(), flatten, rules, [square], way)


class TestFillingBetween(Case):

    def test_from_one_way_to_the_other(self):
        luck = random.Random(9)
        for rules in SAMPLES:
            squares = plain_squares(rules)
            for _ in range(40):
                one = some_way(luck, rules, 6)
                down = normal_way(rules, one[0], way_end(rules, one))
                loop = some_way(luck, rules, 3)
                other = one[0], one[1] + turn_way(rules, one)[1] + down[1]
                for pair in [(one, down), (down, one), (one, other), (one, one), (loop, loop)]:
                    self.between(rules, squares, *pair)

    def between(self, rules, squares, one, other):
        moves = fill_between(rules, squares, one, other)
        self.assertEqual(do_moves(rules, squares, one, moves), other)
        back = turn_moves(rules, squares, other, settle(rules, squares, other))
        self.assertEqual(moves, settle(rules, squares, one) + back)

    def test_ends_that_differ(self):
        for one, other in [(("ba", ()), ("ab", ())), (("ba", (ON,)), ("ba", ())), (("ba", (ON,)), ("ab", ()))]:
            self.refuses(BadEnds(), fill_between, RULES, PLAIN, one, other)
            # Before anything is settled.
            self.refuses(BadEnds(), fill_between, RULES, [], one, other)

    def test_errors_in_order(self):
        self.refuses(BadSquare("q"), fill_between, RULES, [("q", ("", ()), ("", ()))], ("?", ()), ("!", ()))
        self.refuses(BadWord("?"), fill_between, RULES, PLAIN, ("?", ()), ("!", ()))
        self.refuses(BadWord("!"), fill_between, RULES, PLAIN, ("ba", ()), ("!", ()))
        self.refuses(BadStep(1), fill_between, RULES, PLAIN, ("ba", ()), ("ba", (ON, ON)))
        # The first way is settled before the second one.
        lacking = ("baa", ((1, "E", 1),))
        longer = ("baa", ((1, "E", 1),) + ((-1, "E", 0), (1, "E", 0)) * 59)
        self.refuses(Lacking("baa", (1, "R1", 0), (1, "E", 1)), fill_between, RULES, [], lacking, longer)
        self.refuses(TooLong(), fill_between, RULES, [], longer, lacking)

    def test_400_and_401_moves_together(self):
        one, other = long_loop(149), long_loop(149)
        moves = fill_between(MIXED, [], one, other)
        self.assertEqual(len(moves), 400)
        self.assertEqual(do_moves(MIXED, [], one, moves), other)
        self.refuses(TooMany(), fill_between, MIXED, [], long_loop(150), other)
        self.refuses(TooMany(), fill_between, MIXED, [], other, long_loop(150))

    def test_each_settling_has_a_count_of_its_own(self):
        # Both are settled in full before their moves are counted together.
        rules = Rules("abc", [("A", "a", ""), ("B", "b", ""), ("C", "c", ""), ("D", "c", "")])
        peak = "", ((-1, "C", 0), (1, "D", 0))
        self.refuses(TooMany(), fill_between, rules, [], long_loop(349), long_loop(40))
        self.refuses(Lacking("c", (1, "C", 0), (1, "D", 0)), fill_between, rules, [], long_loop(349), peak)
        self.refuses(TooMany(), fill_between, rules, [], long_loop(350), peak)


class TestFillingLoops(Case):

    def test_the_result_is_the_empty_way(self):
        luck = random.Random(13)
        for rules in SAMPLES:
            squares = plain_squares(rules)
            for _ in range(60):
                way = some_way(luck, rules, 4)
                down = normal_way(rules, way_end(rules, way), way[0])
                loop = way[0], way[1] + down[1]
                moves = fill_loop(rules, squares, loop)
                self.assertEqual(do_moves(rules, squares, loop, moves), (way[0], ()))
                first = settle(rules, squares, loop)
                many = len(down_way(rules, way[0])[1])
                self.assertEqual(moves, first + [("drop", at) for at in range(many - 1, -1, -1)])

    def test_empty_loops(self):
        self.assertEqual(fill_loop(RULES, [], ("ab", ())), [])
        self.assertEqual(fill_loop(RULES, [], ("ba", ())),
                         [("grow", 0, ON), ("grow", 2, ON), ("drop", 1), ("drop", 0)])

    def test_ways_that_are_no_loops(self):
        self.refuses(BadEnds(), fill_loop, RULES, PLAIN, ("ba", (ON,)))
        # Before the errors of going down.
        rows = [("C", "c", "b" * 8), ("B", "b", "a" * 8), ("X", "d", "c")]
        rules = Rules("abcd", rows, weights=[1, 9, 80, 99])
        self.refuses(BadEnds(), fill_loop, rules, [], ("d", ((1, "X", 0),)))
        self.refuses(TooLong(), fill_loop, rules, [], ("d", ()))

    def test_lacking(self):
        loop = ("baa", PLAIN[0][1][1] + ((-1, "E", 1),))
        self.assertGreater(len(fill_loop(RULES, PLAIN, loop)), 0)
        self.refuses(Lacking("baa", (1, "R1", 0), (1, "E", 1)), fill_loop, RULES, PLAIN[1:], loop)


class TestUses(Case):

    MOVES = [("drop", 0), ("swap", 0, "B", 0, 1, 1), ("grow", 0, (1, "A", 0)), ("swap", 3, "A", 1, 0, 1),
             ("swap", 0, "B", 2, 0, -1), ("exchange", 0, "left"), ("swap", 0, "C", 0, 5, 1), ("swap", 9, "A", 0, 1, -1),
             ("swap", 0, "A", 0, 0, 1)]

    def test_used_squares(self):
        self.assertEqual(used_squares(self.MOVES), ["B", "A", "C"])
        self.assertEqual(used_squares([]), [])
        self.assertEqual(used_squares([("drop", -1), ("grow", 0, (5, "?", 0))]), [])
        self.assertEqual(used_squares([("swap", -1, "?", -1, 7, 7), ("swap", 0, "", 0, 0, 0)] * 300), ["?", ""])

    def squares(self, *names):
        return [(name, ("", ()), ("", ())) for name in names]

    def test_square_uses(self):
        self.assertEqual(square_uses(self.squares("A", "B", "C", "D"), self.MOVES), [3, -2, 0, 0])
        self.assertEqual(square_uses(self.squares("D", "A"), self.MOVES), [0, 3])
        self.assertEqual(square_uses([], self.MOVES), [])
        self.assertEqual(square_uses(self.squares("A"), []), [0])

    def test_each_leg_and_sign(self):
        for leg, sign, use in [(0, 1, 1), (1, -1, 1), (1, 1, -1), (0, -1, -1), (2, 1, 0), (-1, 1, 0), (0, 0, 0),
                               (1, 0, 0), (0, 2, 0), (1, -2, 0), (5, 5, 0)]:
            self.assertEqual(square_uses(self.squares("A"), [("swap", 0, "A", 0, leg, sign)]), [use])

    def test_nothing_is_examined(self):
        self.assertEqual(square_uses(self.squares("A", "A", "?") * 20, [("swap", -9, "A", -9, 0, 1)] * 500),
                         [500, 500, 0] * 20)
        self.assertEqual(square_uses([("A", ("?", ((7, "?", -1),)), ("", ()))], [("swap", 0, "A", 0, 1, 1)]), [-1])


if __name__ == "__main__":
    unittest.main()
