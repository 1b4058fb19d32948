"""What the document says over the whole program: what is kept, and what is connected."""

import itertools
import random
import unittest

from helpers import Case
from test_fill import some_way
from wayfill.apart import compare_classes, count_of, is_paper, kept_rows
from wayfill.book import Book
from wayfill.carrying import carried_between, carried_filling, carry_squares, write_in, write_out
from wayfill.completion import complete
from wayfill.down import last_word, normal_way
from wayfill.errors import BoundError, Lacking
from wayfill.fares import fare_holds, fare_of, list_fares, list_wide_fares, obstacle, wide_fare_holds, wide_fare_of
from wayfill.fill import fill_between, fill_loop, settle
from wayfill.gaps import count_ways, way_at
from wayfill.listing import class_table, walk_table
from wayfill.machine import Machine
from wayfill.moves import do_move, do_moves, leads, list_moves
from wayfill.overlaps import is_complete, list_overlaps
from wayfill.rules import Rules
from wayfill.shorten import least_moves, least_row, move_layers, shorten
from wayfill.squares import boundary, lacking_overlaps, plain_squares
from wayfill.steps import do_step, steps_at
from wayfill.sums import Sum
from wayfill.translations import both_translations, translate_way
from wayfill.ways import join_ways, set_way, turn_way, way_end

COMPLETE = [
    Rules("ab", [("R1", "ba", "ab"), ("E", "aa", "")]),
    Rules("a", [("R1", "aa", "a")]),
    Rules("ab", [("R1", "ab", ""), ("R2", "ba", "")]),
    Rules("ab", [("N1", "b", "a"), ("N2", "aa", "a")]),
    Rules("abc", [("A", "ba", "ab"), ("B", "ca", "ac"), ("C", "cb", "bc")]),
]
FIRST = [
    Rules("ab", [("R1", "ab", "a"), ("R2", "ab", "b")]),
    Rules("ab", [("R1", "aba", "b")]),
    Rules("ab", [("R1", "bb", "a"), ("R2", "ba", "ab"), ("R3", "bab", "b")]),
]


def way_to(rules, luck, begin, end):
    """A way between the words of up to 4 steps, by chance, or None."""
    try:
        numbers = [(steps, count_ways(rules, begin, end, steps=steps)) for steps in range(5)]
    except BoundError:
        return None
    steps, many = luck.choice([(steps, many) for steps, many in numbers if many] or [(0, 0)])
    return way_at(rules, begin, end, luck.randrange(many), steps=steps) if many else None


class TestConnected(Case):

    def test_ways_with_the_same_ends_over_complete_rules(self):
        luck = random.Random(31)
        for rules in COMPLETE:
            self.assertTrue(is_complete(rules))
            squares = plain_squares(rules)
            self.assertEqual(lacking_overlaps(rules, squares), [])
            for _ in range(12):
                one = some_way(luck, rules, 5, letters=4)
                begin, end = one[0], way_end(rules, one)
                self.assertEqual(last_word(rules, begin), last_word(rules, end))
                other = way_to(rules, luck, begin, end) or one
                try:
                    settled = [do_moves(rules, squares, way, settle(rules, squares, way)) for way in (one, other)]
                    moves = fill_between(rules, squares, one, other)
                    loop = join_ways(rules, one, turn_way(rules, other))
                    filled = do_moves(rules, squares, loop, fill_loop(rules, squares, loop))
                except BoundError:
                    continue
                self.assertEqual(settled, [normal_way(rules, begin, end)] * 2)
                self.assertEqual(do_moves(rules, squares, one, moves), other)
                self.assertEqual(filled, (begin, ()))

    def test_boundaries_of_squares(self):
        for rules in COMPLETE:
            squares = plain_squares(rules)
            for square in squares:
                loop = boundary(rules, square)
                self.assertTrue(leads(rules, squares, loop, fill_loop(rules, squares, loop), (loop[0], ())))

    def test_ways_over_first_rules_with_carried_squares(self):
        luck = random.Random(32)
        connected = 0
        for rules in FIRST:
            final, log = complete(rules)
            self.assertTrue(is_complete(final))
            squares = plain_squares(final)
            self.assertEqual(len(squares), len(list_overlaps(final)))
            for _ in range(15):
                one = some_way(luck, rules, 3, letters=4)
                begin, end = one[0], way_end(rules, one)
                inner = write_in(rules, log, one)
                self.assertEqual((inner[0], way_end(final, inner)), (begin, end))
                outer = write_out(rules, log, inner)
                self.assertEqual((outer[0], way_end(rules, outer)), (begin, end))
                other = way_to(rules, luck, begin, end) or one
                try:
                    carried = carry_squares(rules, log, squares)
                    moves = carried_filling(rules, log, squares, one)
                    between = carried_between(rules, log, squares, one, other)
                except BoundError:
                    continue
                self.assertEqual(do_moves(rules, carried, one, moves),
                                 write_out(rules, log, normal_way(final, begin, end)))
                self.assertTrue(leads(rules, carried, one, between, other))
                connected += 1
        self.assertGreater(connected, 15)

    def test_classes_of_first_and_final_rules(self):
        for rules in FIRST:
            final, log = complete(rules)
            words = ["".join(word) for size in range(4) for word in itertools.product("ab", repeat=size)]
            for one, other in itertools.product(words, words):
                paper = compare_classes(final, one, other)
                self.assertTrue(is_paper(final, one, other, paper))
                if paper[0] == "same":
                    # The way over the final rules written out connects the words by the first rules.
                    way = write_out(rules, log, paper[1])
                    self.assertTrue(is_paper(rules, one, other, ("same", way)))

    def test_distances(self):
        luck = random.Random(33)
        for rules in COMPLETE[:4]:
            squares = plain_squares(rules)[:3]
            for _ in range(4):
                way = some_way(luck, rules, 2, letters=2)
                try:
                    layers = move_layers(rules, squares, way, steps=4, depth=2)
                except BoundError:
                    continue
                for number, layer in enumerate(layers):
                    for other in layer[:5]:
                        row = least_row(rules, squares, way, other, steps=4, depth=2)
                        self.assertEqual(len(row), number)
                        self.assertEqual(least_moves(rules, squares, way, other, steps=4, depth=2), number)
                        self.assertEqual(do_moves(rules, squares, way, row), other)
                        for many in range(number + 1):
                            self.assertLessEqual(len(do_moves(rules, squares, way, row[:many])[1]), 4)


class TestKept(Case):

    def test_moves_keep_fares(self):
        luck = random.Random(34)
        for rules in COMPLETE:
            squares = plain_squares(rules)[:8]
            fares, wide = list_fares(rules, squares), list_wide_fares(rules, squares)
            self.assertTrue(all(fare_holds(rules, squares, fare) for fare in fares))
            self.assertTrue(all(wide_fare_holds(rules, squares, fare) for fare in wide))
            for _ in range(6):
                way = some_way(luck, rules, 4, letters=4)
                try:
                    moves = list_moves(rules, squares, way, steps=8)
                except BoundError:
                    continue
                for move in luck.sample(moves, min(len(moves), 12)):
                    result = do_move(rules, squares, way, move)
                    self.assertEqual((result[0], way_end(rules, result)), (way[0], way_end(rules, way)))
                    for fare in fares:
                        self.assertEqual(fare_of(rules, fare, result), fare_of(rules, fare, way))
                    before, after = luck.choice(["", "a"]), luck.choice(["", "aa"])
                    placed = [set_way(rules, before, one, after) for one in (way, result)]
                    for fare in wide:
                        self.assertEqual(wide_fare_of(rules, fare, result), wide_fare_of(rules, fare, way))
                        self.assertEqual(*[wide_fare_of(rules, fare, one) for one in placed])

    def test_a_loop_with_an_obstacle_is_not_filled(self):
        rules = FIRST[0]
        loop = ("ab", ((1, "R1", 0), (-1, "R1", 0), (1, "R2", 0), (-1, "R2", 0)))
        # A loop without an obstacle may need squares as well, to be filled by settling it.
        self.assertIsNone(obstacle(rules, [], loop))
        self.assertRaises(Lacking, fill_loop, rules, [], loop)
        rules = Rules("ab", [("R1", "b", "a"), ("R2", "b", "a")])
        loop = ("b", ((1, "R1", 0), (-1, "R2", 0)))
        self.assertEqual(obstacle(rules, [], loop), [1, 0])
        self.assertRaises(Lacking, fill_loop, rules, [], loop)
        self.assertIsNone(least_moves(rules, [], loop, ("b", ()), steps=4, depth=3))
        squares = plain_squares(rules)
        self.assertIsNone(obstacle(rules, squares, loop))
        self.assertEqual(do_moves(rules, squares, loop, fill_loop(rules, squares, loop)), ("b", ()))

    def test_steps_keep_counts_classes_and_numbers(self):
        luck = random.Random(35)
        rules = Rules("ab", [("R1", "ba", "ab"), ("R2", "aaa", ""), ("R3", "bb", "")])
        table = class_table(rules)
        for others in COMPLETE + FIRST + [rules]:
            for _ in range(40):
                word = "".join(luck.choice(others.letters) for _ in range(luck.randint(0, 8)))
                steps = steps_at(others, word)
                if steps:
                    result = do_step(others, word, luck.choice(steps))
                    for row in kept_rows(others):
                        self.assertEqual(count_of(others, row, word), count_of(others, row, result))
                    if others == rules:
                        self.assertEqual(walk_table(rules, table, 0, word), walk_table(rules, table, 0, result))
                        self.assertEqual(Sum(rules, [(1, word)]), Sum(rules, [(1, result)]))

    def test_translated_ways_keep_their_ends(self):
        luck = random.Random(36)
        one, other = COMPLETE[0], Rules("ab", [("X", "aa", ""), ("Y", "ba", "ab"), ("Z", "bab", "abb")])
        there, back = both_translations(one, other)
        for _ in range(30):
            way = some_way(luck, one, 6, letters=5)
            away = translate_way(one, other, there, way)
            self.assertEqual((away[0], way_end(other, away)), (way[0], way_end(one, way)))
            home = translate_way(other, one, back, away)
            self.assertEqual((home[0], way_end(one, home)), (way[0], way_end(one, way)))

    def test_short_forms_keep_the_ends(self):
        luck = random.Random(37)
        for rules in COMPLETE + FIRST:
            for _ in range(10):
                way = some_way(luck, rules, 8, letters=4)
                short, moves = shorten(rules, way)
                self.assertEqual((short[0], way_end(rules, short)), (way[0], way_end(rules, way)))
                self.assertTrue(leads(rules, [], way, moves, short))


class TestTogether(Case):

    def test_a_machine_and_a_book(self):
        rules = COMPLETE[0]
        machine = Machine(rules)
        machine.run("squares write :abba on R1 2 back R1 2 on R1 2")
        way = machine.way
        machine.run("settle show moves")
        squares = machine.squares
        book = Book.replay("ab", [("rule",) + row for row in rules] + [("square",) + square for square in squares])
        moves = settle(rules, squares, way)
        self.assertEqual(machine.shown, [str(len(moves))])
        book.put_all([("way", "W", way), ("way", "N", machine.way), ("moves", "M", "W", moves, "N")])
        self.assertEqual(book.rules, rules)
        self.assertEqual(book.squares, squares)
        self.assertEqual(book.link("W", "N"), moves)
        back = book.link("N", "W")
        self.assertEqual(do_moves(rules, squares, machine.way, back), way)


if __name__ == "__main__":
    unittest.main()
