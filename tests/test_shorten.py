"""Points 103 to 105: shorten.py."""

import itertools
import random
import unittest

from helpers import Case
from test_fill import SAMPLES, some_way
from wayfill.errors import BadEnds, BadNumber, BadSquare, BadStep, BadWord, TooLong, TooMany
from wayfill.moves import do_move, do_moves, leads, list_moves, move_fits
from wayfill.overlaps import is_complete
from wayfill.rules import Rules
from wayfill.shorten import least_moves, least_row, move_layers, shorten
from wayfill.squares import plain_squares
from wayfill.steps import turn_step
from wayfill.ways import way_end, way_words

HUGE = 10 ** 18 - 1
RULES = Rules("abc", [("A", "aa", "a"), ("B", "bb", "b"), ("C", "cc", "c"), ("E", "ac", "")])
SORT = Rules("ab", [("R1", "ba", "ab")])
ON, BACK = (1, "R1", 0), (-1, "R1", 0)
# Going back from a row of letters a, each rule fits at a place for each row of 8 of them.
WIDE = Rules("ab", [(f"R{at}", "b", "a" * 8) for at in range(10)], weights=[1, 9])
NINE = Rules("ab", WIDE.rows[:9], weights=[1, 9])
# Swaps of these fit everywhere and change nothing.
IDLE = [(f"S{at}", ("", ()), ("", ())) for at in range(40)]


def exchanged(rules, way, first, second):
    """The way and the moves after moving the step at `second` behind that at `first`, or None (point 103)."""
    moves = []
    for at in range(second - 1, first, -1):
        sides = [("exchange", at, side) for side in ("left", "right")]
        fitting = [move for move in sides if move_fits(rules, [], way, move)]
        if not fitting:
            return None
        moves.append(fitting[0])
        way = do_move(rules, [], way, fitting[0])
    return way, moves


def short_form(rules, way):
    """The short form and the moves, by the words of point 103."""
    moves = []
    again = True
    while again:
        again = False
        for first, second in itertools.combinations(range(len(way[1])), 2):
            found = exchanged(rules, way, first, second)
            if found and found[0][1][first + 1] == turn_step(found[0][1][first]):
                drop = ("drop", first)
                way, again = do_move(rules, [], found[0], drop), True
                moves += found[1] + [drop]
                break
    return way, moves


def layers_of(rules, squares, way, steps, depth):
    """The layers, by the words of point 104."""
    layers = [[way]]
    while len(layers) <= depth:
        layer = []
        for known in layers[-1]:
            for move in list_moves(rules, squares, known, steps=steps):
                result = do_move(rules, squares, known, move)
                if result not in layer and not any(result in earlier for earlier in layers):
                    layer.append(result)
        if not layer:
            return layers
        layers.append(layer)
    return layers


class TestShortening(Case):

    def test_neighbours(self):
        self.assertEqual(shorten(SORT, ("ba", (ON, BACK))), (("ba", ()), [("drop", 0)]))
        self.assertEqual(shorten(SORT, ("ba", (ON, BACK, ON))), (("ba", (ON,)), [("drop", 0)]))
        self.assertEqual(shorten(SORT, ("ba", (ON, BACK) * 10)), (("ba", ()), [("drop", 0)] * 10))
        self.assertEqual(shorten(SORT, ("ba", ())), (("ba", ()), []))
        way = ("bba", ((1, "R1", 1), (1, "R1", 0)))
        self.assertEqual(shorten(SORT, way), (way, []))

    def test_a_pair_far_apart(self):
        way = ("aabbcc", ((1, "A", 0), (1, "B", 1), (1, "C", 2), (-1, "A", 0)))
        self.assertEqual(shorten(RULES, way),
                         (("aabbcc", ((1, "B", 2), (1, "C", 3))),
                          [("exchange", 2, "left"), ("exchange", 1, "left"), ("drop", 0)]))
        way = ("ccbbaa", ((1, "A", 4), (1, "B", 2), (1, "C", 0), (-1, "A", 2)))
        self.assertEqual(shorten(RULES, way),
                         (("ccbbaa", ((1, "B", 2), (1, "C", 0))),
                          [("exchange", 2, "right"), ("exchange", 1, "right"), ("drop", 0)]))

    def test_the_first_pair_by_the_first_index_and_then_by_the_second(self):
        way = ("aabb", ((1, "A", 0), (1, "B", 1), (-1, "B", 1), (-1, "A", 0)))
        self.assertEqual(shorten(RULES, way)[1],
                         [("exchange", 2, "left"), ("exchange", 1, "left"), ("drop", 0), ("drop", 0)])
        way = ("aabb", ((1, "A", 0), (1, "B", 1), (-1, "A", 0), (1, "A", 0), (-1, "A", 0)))
        self.assertEqual(shorten(RULES, way),
                         (("aabb", ((1, "B", 2),)), [("exchange", 1, "left"), ("drop", 0), ("drop", 1)]))

    def test_steps_that_do_not_come_together(self):
        # The step between stands in what the first one left.
        way = ("aabb", ((1, "A", 0), (-1, "A", 0), (1, "A", 0)))
        self.assertEqual(shorten(RULES, way), (("aabb", ((1, "A", 0),)), [("drop", 0)]))
        rules = Rules("ab", [("A", "aa", "a"), ("B", "ba", "ab")])
        way = ("baa", ((1, "A", 1), (1, "B", 0), (-1, "A", 0)))
        self.assertEqual(shorten(rules, way), (way, []))
        # They come together at other places, so the one is not the other turned about.
        way = ("aaa", ((1, "A", 0), (-1, "A", 1)))
        self.assertEqual(shorten(rules, way), (way, []))

    def test_where_both_sides_fit(self):
        rules = Rules("ab", [("A", "a", ""), ("B", "b", "")])
        for begin, place in [("ab", 0), ("ba", 1)]:
            way = (begin, ((1, "A", place), (1, "B", 0), (-1, "A", 0)))
            for side in ("left", "right"):
                self.assertTrue(move_fits(rules, [], way, ("exchange", 1, side)))
            if place == 0:
                self.assertEqual(shorten(rules, way), ((begin, ((1, "B", 1),)), [("exchange", 1, "left"), ("drop", 0)]))
            else:
                # The right side would bring the last step behind the first one, but it is not tried.
                self.assertEqual(shorten(rules, way), (way, []))

    def test_an_exchange_whose_result_is_too_long(self):
        for size in [31, 32]:
            begin = "aabbcc" + "c" * (size - 6)
            way = (begin, ((1, "A", 0), (-1, "B", 1), (1, "C", size - 3), (-1, "A", 0)))
            if size == 32:
                # Before the third step the last one would make a word of 33 letters.
                self.assertEqual(shorten(RULES, way), (way, []))
            else:
                self.assertEqual(len(shorten(RULES, way)[0][1]), 2)
            self.assertEqual(shorten(RULES, way), short_form(RULES, way))

    def test_20_and_21_steps(self):
        self.assertEqual(shorten(SORT, ("ba", (ON, BACK) * 10))[0], ("ba", ()))
        self.refuses(TooLong(), shorten, SORT, ("ba", (ON, BACK) * 10 + (ON,)))
        self.refuses(TooLong(), shorten, SORT, ("ba", (ON, BACK) * 60))
        self.refuses(BadStep(20), shorten, SORT, ("ba", (ON, BACK) * 10 + (BACK,)))
        self.refuses(BadWord("c"), shorten, SORT, ("c", (ON, BACK) * 20))

    def test_random_ways(self):
        luck = random.Random(16)
        shorter = 0
        for _ in range(250):
            rules = luck.choice(SAMPLES + [RULES, RULES, Rules("ab", [("A", "a", ""), ("B", "b", "")])])
            way = some_way(luck, rules, 12)
            short, moves = shorten(rules, way)
            self.assertEqual((short, moves), short_form(rules, way))
            self.assertTrue(leads(rules, [], way, moves, short))
            self.assertEqual({move[0] for move in moves} - {"drop", "exchange"}, set())
            self.assertEqual(shorten(rules, short), (short, []))
            shorter += any(move[0] == "exchange" for move in moves)
        self.assertGreater(shorter, 20)

    def test_random_long_words(self):
        luck = random.Random(17)
        for _ in range(60):
            begin = "".join(luck.choice(["aa", "bb", "cc"]) for _ in range(16))
            way = (begin, ())
            for _ in range(luck.randint(4, 14)):
                grows = [move for move in list_moves(RULES, [], (way_end(RULES, way), ()), steps=2)]
                step = luck.choice(grows)[2]
                way = (begin, way[1] + (step,))
            self.assertEqual(shorten(RULES, way), short_form(RULES, way))
            self.assertLessEqual(max(len(word) for word in way_words(RULES, way)), 32)


class TestLayers(Case):

    def test_layer_0(self):
        for way in [("ba", ()), ("ba", (ON,)), ("ba", (ON, BACK))]:
            self.assertEqual(move_layers(SORT, [], way, steps=6, depth=0), [[way]])

    def test_a_worked_example(self):
        way = ("ba", ())
        self.assertEqual(move_layers(SORT, [], way, steps=2, depth=3), [[way], [("ba", (ON, BACK))]])
        self.assertEqual(move_layers(SORT, [], way, steps=4, depth=2),
                         [[way], [("ba", (ON, BACK))], [("ba", (ON, BACK, ON, BACK))]])
        self.assertEqual(move_layers(SORT, [], ("ba", (ON, BACK, ON, BACK)), steps=4, depth=6),
                         [[("ba", (ON, BACK, ON, BACK))], [("ba", (ON, BACK))], [("ba", ())]])

    def test_an_empty_layer_ends_the_list(self):
        for depth in range(7):
            self.assertEqual(move_layers(Rules("a", []), [], ("a", ()), steps=6, depth=depth), [[("a", ())]])
            self.assertEqual(move_layers(SORT, [], ("ba", (ON,)), steps=1, depth=depth), [[("ba", (ON,))]])
        self.assertEqual(len(move_layers(SORT, [], ("ba", ()), steps=4, depth=6)), 3)

    def test_numbers(self):
        ways = [("ba", ((ON, BACK) * 4)[:many]) for many in range(8)]
        for many, way in enumerate(ways):
            for steps in [-HUGE, -1, 0, 1, 2, 3, 4, 5, 6, 7, HUGE]:
                if many <= steps <= 6:
                    self.assertEqual(move_layers(SORT, [], way, steps=steps, depth=0), [[way]])
                    self.assertEqual(least_moves(SORT, [], way, way, steps=steps, depth=0), 0)
                else:
                    self.refuses(BadNumber(steps), move_layers, SORT, [], way, steps=steps, depth=0)
                    self.refuses(BadNumber(steps), move_layers, SORT, [], way, steps=steps, depth=7)
                    self.refuses(BadNumber(steps), least_moves, SORT, [], way, way, steps=steps, depth=0)
                    self.refuses(BadNumber(steps), least_row, SORT, [], way, way, steps=steps, depth=-1)
        for depth in [-1, 7, HUGE, -HUGE]:
            self.refuses(BadNumber(depth), move_layers, SORT, [], ways[0], steps=6, depth=depth)
            self.refuses(BadNumber(depth), least_moves, SORT, [], ways[0], ways[0], steps=6, depth=depth)
        self.assertEqual(len(move_layers(SORT, [], ways[0], steps=6, depth=6)), 4)

    def test_the_numbers_of_either_way(self):
        short, long = ("ba", (ON,)), ("ba", (ON, BACK, ON))
        for one, other in [(short, long), (long, short)]:
            for call in (least_moves, least_row):
                self.refuses(BadNumber(2), call, SORT, [], one, other, steps=2, depth=6)
            self.assertEqual(least_moves(SORT, [], one, other, steps=3, depth=6), 1)

    def test_100_and_101_ways(self):
        way = ("a" * 18, ())
        for depth in [1, 2, 6]:
            layers = move_layers(NINE, [], way, steps=2, depth=depth)
            self.assertEqual([len(layer) for layer in layers], [1, 99])
        self.assertEqual([len(layer) for layer in move_layers(WIDE, [], ("a" * 17, ()), steps=2, depth=0)], [1])
        self.refuses(TooMany(), move_layers, WIDE, [], ("a" * 17, ()), steps=2, depth=1)
        self.refuses(TooMany(), least_moves, WIDE, [], ("a" * 17, ()), ("a" * 17, ()), steps=2, depth=1)
        self.assertEqual([len(layer) for layer in move_layers(NINE, [], ("a" * 17, ()), steps=2, depth=1)], [1, 90])
        self.refuses(TooMany(), move_layers, NINE, [], way, steps=4, depth=2)

    def test_more_than_400_moves_of_a_way_before_the_last_layer(self):
        way = ("b" * 32, ())
        few, many = IDLE[:3], IDLE[:4]
        self.assertEqual(len(list_moves(SORT, few, way, steps=6)), 396)
        self.refuses(TooMany(), list_moves, SORT, many, way, steps=6)
        self.assertEqual(move_layers(SORT, few, way, steps=6, depth=6), [[way]])
        self.assertEqual(move_layers(SORT, many, way, steps=6, depth=0), [[way]])
        self.refuses(TooMany(), move_layers, SORT, many, way, steps=6, depth=1)
        self.assertEqual(least_moves(SORT, many, way, way, steps=6, depth=0), 0)
        self.refuses(TooMany(), least_moves, SORT, many, way, way, steps=6, depth=1)

    def test_more_than_400_moves_of_a_way_of_the_last_layer(self):
        way = ("b" * 15 + "a", ())
        squares = IDLE[:4]
        self.assertEqual(len(list_moves(SORT, squares, way, steps=2)), 4 * 4 * 17 + 1)
        further = (way[0], ((1, "R1", 14), (-1, "R1", 14)))
        self.refuses(TooMany(), list_moves, SORT, squares, further, steps=2)
        self.assertEqual(move_layers(SORT, squares, way, steps=2, depth=1), [[way], [further]])
        self.assertEqual(least_moves(SORT, squares, way, further, steps=2, depth=1), 1)
        # Later layers raise their errors although an earlier one has the way.
        for call in (least_moves, least_row):
            for other in (way, further):
                self.refuses(TooMany(), call, SORT, squares, way, other, steps=2, depth=2)
        self.refuses(TooMany(), move_layers, SORT, squares, way, steps=2, depth=2)

    def test_random_layers(self):
        luck = random.Random(18)
        compared = 0
        for _ in range(120):
            rules = luck.choice(SAMPLES)
            squares = plain_squares(rules) if luck.random() < 0.6 and is_complete(rules) else []
            way = some_way(luck, rules, 4, letters=3)
            steps, depth = luck.randint(len(way[1]), 5), luck.randint(0, 3)
            try:
                layers = move_layers(rules, squares, way, steps=steps, depth=depth)
            except TooMany:
                continue
            compared += 1
            self.assertEqual(layers, layers_of(rules, squares, way, steps, depth))
            self.check_rows(rules, squares, layers, steps, depth)
        self.assertGreater(compared, 50)

    def check_rows(self, rules, squares, layers, steps, depth):
        """Each way of the layers has its distance, and a row that leads to it."""
        way = layers[0][0]
        for number, layer in enumerate(layers):
            for other in layer[:6]:
                self.assertEqual(least_moves(rules, squares, way, other, steps=steps, depth=depth), number)
                row = least_row(rules, squares, way, other, steps=steps, depth=depth)
                self.assertEqual(len(row), number)
                self.assertTrue(leads(rules, squares, way, row, other))
                for many in range(number):
                    self.assertLessEqual(len(do_moves(rules, squares, way, row[:many])[1]), steps)


class TestDistance(Case):

    def test_distances(self):
        one, other = ("ba", (ON,)), ("ba", (ON, BACK, ON, BACK, ON))
        for depth, distance, row in [(0, None, None), (1, None, None), (2, 2, 2), (6, 2, 2)]:
            self.assertEqual(least_moves(SORT, [], one, other, steps=5, depth=depth), distance)
            found = least_row(SORT, [], one, other, steps=5, depth=depth)
            self.assertEqual(None if found is None else len(found), row)
            self.assertEqual(least_moves(SORT, [], other, one, steps=5, depth=depth), distance)
        self.assertEqual(least_row(SORT, [], one, one, steps=1, depth=0), [])
        self.assertEqual(least_moves(SORT, [], one, one, steps=6, depth=3), 0)

    def test_ways_that_no_move_connects(self):
        rules = Rules("ab", [("A", "b", "a"), ("B", "b", "a")])
        one, other = ("b", ((1, "A", 0),)), ("b", ((1, "B", 0),))
        self.assertIsNone(least_moves(rules, [], one, other, steps=3, depth=2))
        self.assertIsNone(least_row(rules, [], one, other, steps=3, depth=2))
        squares = [("Q", one, other)]
        self.assertEqual(least_moves(rules, squares, one, other, steps=1, depth=1), 1)
        self.assertEqual(least_row(rules, squares, one, other, steps=1, depth=1), [("swap", 0, "Q", 0, 0, 1)])
        self.assertEqual(least_row(rules, squares, other, one, steps=1, depth=1), [("swap", 0, "Q", 0, 1, 1)])

    def test_the_number_of_steps_bounds_the_ways_between(self):
        rules = Rules("ab", [("A", "b", "a"), ("B", "b", "a")])
        one, other = ("b", ((1, "A", 0),)), ("b", ((1, "B", 0),))
        squares = [("Q", ("b", ((1, "A", 0), (-1, "B", 0))), ("b", ()))]
        self.assertIsNone(least_row(rules, squares, one, other, steps=1, depth=6))
        self.assertEqual(least_moves(rules, squares, one, other, steps=3, depth=2), 2)
        row = least_row(rules, squares, one, other, steps=3, depth=2)
        self.assertTrue(leads(rules, squares, one, row, other))

    def test_bad_ends_after_the_numbers(self):
        one = ("ba", (ON,))
        for other in [("ba", ()), ("ab", ()), ("bba", ()), ("ab", (BACK, ON)), ("ba", (ON, BACK))]:
            for call in (least_moves, least_row):
                self.refuses(BadEnds(), call, SORT, [], one, other, steps=2, depth=2)
                self.refuses(BadNumber(7), call, SORT, [], one, other, steps=7, depth=2)
                self.refuses(BadNumber(0), call, SORT, [], one, other, steps=0, depth=2)
                self.refuses(BadNumber(-1), call, SORT, [], one, other, steps=2, depth=-1)
        self.refuses(BadEnds(), least_moves, WIDE, [], ("a" * 17, ()), ("a" * 16, ()), steps=2, depth=1)

    def test_errors_of_the_arguments(self):
        wrong = [("Q", ("ba", (ON,)), ("ba", ()))]
        way = ("ba", ())
        self.refuses(BadSquare("Q"), move_layers, SORT, wrong, ("?", ()), steps=9, depth=9)
        self.refuses(BadWord("?"), move_layers, SORT, [], ("?", ()), steps=9, depth=9)
        for call in (least_moves, least_row):
            self.refuses(BadSquare("Q"), call, SORT, wrong, ("?", ()), ("!", ()), steps=9, depth=9)
            self.refuses(BadWord("?"), call, SORT, [], ("?", ()), ("!", ()), steps=9, depth=9)
            self.refuses(BadWord("!"), call, SORT, [], way, ("!", ()), steps=9, depth=9)
            self.refuses(BadNumber(9), call, SORT, [], way, ("ab", ()), steps=9, depth=9)


if __name__ == "__main__":
    unittest.main()
