"""Points 65 to 71: fares.py."""

import random
import unittest

from helpers import Case
from test_fill import SAMPLES, some_way
from wayfill.down import normal_way
from wayfill.errors import BadEnds, BadFare, BadSquare, BadStep, BadWord, Lacking, TooLong, TooMany
from wayfill.fares import count_row, fare_holds, fare_of, list_fares, list_wide_fares, obstacle, square_rows
from wayfill.fares import wide_fare_holds, wide_fare_of
from wayfill.fill import fill_loop, square_uses
from wayfill.moves import do_move, list_moves
from wayfill.rules import Rules
from wayfill.squares import boundary, exchange_legs, plain_squares
from wayfill.ways import set_way, turn_way, way_words
from wayfill.whole import kernel_rows

RULES = Rules("ab", [("R1", "ba", "ab"), ("E", "aa", "")])
PLAIN = plain_squares(RULES)
WAY = ("baab", ((1, "R1", 0), (-1, "E", 3), (1, "R1", 1), (1, "E", 0), (-1, "E", 2), (-1, "E", 0)))
HUGE = 10 ** 18 - 1

# One rule that takes out a letter, and one that takes out two; a square says that they do the same.
TWO = Rules("a", [("A", "a", ""), ("B", "aa", "")])
SAME = ("S", ("aa", ((1, "A", 0), (1, "A", 0))), ("aa", ((1, "B", 0),)))


def wide_fare(rules, fare, way):
    """The wide fare of a way, by the words of point 68."""
    base, lefts, rights = fare
    words = way_words(rules, way)
    total = 0
    for at, (sign, name, place) in enumerate(way[1]):
        rank = rules.rank_of(name)
        part = rules.left_of(name) if sign == 1 else rules.right_of(name)
        before, after = words[at][:place], words[at][place + len(part):]
        total += sign * (base[rank] + sum(lefts[rank][rules.letters.index(letter)] for letter in before)
                         + sum(rights[rank][rules.letters.index(letter)] for letter in after))
    return total


class TestCounting(Case):

    def test_count_rows(self):
        self.assertEqual(count_row(RULES, WAY), [2, -2])
        self.assertEqual(count_row(RULES, ("ab", ())), [0, 0])
        self.assertEqual(count_row(RULES, turn_way(RULES, WAY)), [-2, 2])
        self.assertEqual(count_row(Rules("ab", []), ("ab", ())), [])

    def test_square_rows(self):
        self.assertEqual(square_rows(RULES, PLAIN), [[2, 0], [0, 0]])
        self.assertEqual(square_rows(RULES, [exchange_legs(PLAIN[0])] + PLAIN[1:]), [[-2, 0], [0, 0]])
        self.assertEqual(square_rows(RULES, []), [])
        self.assertEqual(square_rows(TWO, [SAME]), [[2, -1]])

    def test_what_each_kind_of_move_does(self):
        luck = random.Random(17)
        for rules in SAMPLES:
            squares = plain_squares(rules) + [("X", ("a", ()), ("a", ()))]
            rows = {square[0]: row for square, row in zip(squares, square_rows(rules, squares))}
            for _ in range(10):
                way = some_way(luck, rules, 6)
                for move in list_moves(rules, squares, way, steps=len(way[1]) + 1):
                    lost = [0] * len(rules)
                    if move[0] == "swap":
                        sign = 1 if move[4:] in [(0, 1), (1, -1)] else -1
                        lost = [sign * number for number in rows[move[2]]]
                    after = count_row(rules, do_move(rules, squares, way, move))
                    self.assertEqual([one + less for one, less in zip(after, lost)], count_row(rules, way))

    def test_a_loop_that_is_filled(self):
        luck = random.Random(19)
        for rules in SAMPLES:
            squares = plain_squares(rules)
            rows = square_rows(rules, squares)
            for square in squares:
                loop = boundary(rules, square)
                uses = square_uses(squares, fill_loop(rules, squares, loop))
                summed = [sum(use * row[at] for use, row in zip(uses, rows)) for at in range(len(rules))]
                self.assertEqual(summed, count_row(rules, loop))
        self.assertIsNotNone(luck)

    def test_errors(self):
        self.refuses(BadStep(0), count_row, RULES, ("ab", ((1, "R1", 0),)))
        self.refuses(TooLong(), count_row, RULES, ("a" * 33, ()))
        self.refuses(BadSquare("S"), square_rows, RULES, [PLAIN[0], ("S", ("?", ()), ("?", ()))])
        self.refuses(TooMany(), square_rows, RULES, PLAIN * 21)


class TestFares(Case):

    def test_the_fare_of_a_way(self):
        self.assertEqual(fare_of(RULES, [1, 0], WAY), 2)
        self.assertEqual(fare_of(RULES, [3, 5], WAY), -4)
        self.assertEqual(fare_of(RULES, [HUGE, -HUGE], WAY), 4 * HUGE)
        self.assertEqual(fare_of(Rules("ab", []), [], ("ab", ())), 0)

    def test_wrong_lengths(self):
        for fare in [[], [1], [1, 2, 3], [0] * 1000]:
            self.refuses(BadFare(), fare_of, RULES, fare, WAY)
            self.refuses(BadFare(), fare_of, RULES, fare, ("?", ()))
            self.refuses(BadFare(), fare_holds, RULES, PLAIN, fare)
            self.refuses(BadSquare("q"), fare_holds, RULES, [("q", ("", ()), ("", ()))], fare)
        self.refuses(BadWord("?"), fare_of, RULES, [1, 2], ("?", ()))
        self.refuses(BadFare(), fare_of, Rules("ab", []), [0], ("ab", ()))

    def test_fares_that_hold(self):
        self.judges(True, fare_holds, TWO, [SAME], [1, 2])
        self.judges(True, fare_holds, TWO, [exchange_legs(SAME)], [-3, -6])
        self.judges(True, fare_holds, TWO, [SAME], [0, 0])
        self.judges(False, fare_holds, TWO, [SAME], [1, 1])
        self.judges(False, fare_holds, TWO, [SAME], [2, 1])
        self.judges(True, fare_holds, TWO, [], [5, -7])
        self.judges(False, fare_holds, TWO, [("T", ("", ()), ("", ())), SAME], [1, 1])
        self.judges(True, fare_holds, Rules("ab", []), [], [])

    def test_all_moves_keep_a_fare_that_holds(self):
        luck = random.Random(23)
        for rules in SAMPLES:
            squares = plain_squares(rules)
            for fare in list_fares(rules, squares):
                self.judges(True, fare_holds, rules, squares, fare)
                way = some_way(luck, rules, 5)
                for move in list_moves(rules, squares, way, steps=len(way[1]) + 1):
                    after = do_move(rules, squares, way, move)
                    self.assertEqual(fare_of(rules, fare, after), fare_of(rules, fare, way))

    def test_listed_fares(self):
        self.assertEqual(list_fares(TWO, [SAME]), [[1, 2]])
        self.assertEqual(list_fares(RULES, PLAIN), [[0, 1]])
        # Without squares there is one for each rule.
        self.assertEqual(list_fares(TWO, []), [[1, 0], [0, 1]])
        self.assertEqual(list_fares(Rules("ab", []), []), [])
        for rules in SAMPLES:
            squares = plain_squares(rules)
            self.assertEqual(list_fares(rules, squares), kernel_rows(square_rows(rules, squares), width=len(rules)))
        self.refuses(BadSquare("q"), list_fares, RULES, [("q", ("", ()), ("", ()))])

    def test_twelve_rules_and_forty_squares(self):
        rules = Rules("ab", [(f"R{at}", "ab", "a") for at in range(12)])
        legs = [("ab", ((1, name, 0),)) for name in rules.names]
        squares = [(f"S{at}", legs[at % 11], legs[at % 11 + 1]) for at in range(40)]
        self.assertEqual(list_fares(rules, squares), [[1] * 12])


class TestWideFares(Case):

    def sample(self, rules):
        """A wide fare with different numbers throughout."""
        many, letters = len(rules), len(rules.letters)
        numbers = [at * at + 1 for at in range(many + 2 * many * letters)]
        rows = [numbers[at:at + letters] for at in range(many, len(numbers), letters)]
        return numbers[:many], rows[:many], rows[many:]

    def test_the_wide_fare_of_a_step(self):
        fare = ([1, 10], [[100, 1000], [2, 3]], [[10000, 100000], [5, 7]])
        for sign, word in [(1, "abbaab"), (-1, "ababab")]:
            self.assertEqual(wide_fare_of(RULES, fare, (word, ((sign, "R1", 2),))), sign * (1 + 1100 + 110000))
        self.assertEqual(wide_fare_of(RULES, fare, ("baab", ((1, "E", 1),))), 10 + 3 + 7)
        self.assertEqual(wide_fare_of(RULES, fare, ("abb", ((-1, "E", 2),))), -(10 + 2 + 3 + 7))
        self.assertEqual(wide_fare_of(RULES, fare, ("aa", ((1, "E", 0), (-1, "E", 0)))), 0)
        self.assertEqual(wide_fare_of(RULES, fare, ("ab", ())), 0)

    def test_against_the_words_of_the_point(self):
        luck = random.Random(29)
        for rules in SAMPLES:
            fare = self.sample(rules)
            for _ in range(30):
                way = some_way(luck, rules, 7)
                self.assertEqual(wide_fare_of(rules, fare, way), wide_fare(rules, fare, way))
                self.assertEqual(wide_fare_of(rules, fare, turn_way(rules, way)), -wide_fare(rules, fare, way))

    def test_wrong_lengths(self):
        base, lefts, rights = self.sample(RULES)
        wrong = [([1], lefts, rights), (base + [1], lefts, rights), (base, lefts[:1], rights),
                 (base, lefts, rights[:1]), (base, lefts + [[1, 1]], rights),
                 (base, lefts, rights + [[1, 1]]), (base, [[1], [1, 2]], rights),
                 (base, [[1, 2], [1, 2, 3]], rights), (base, lefts, [[1, 2], []]), (base, lefts, [[1] * 1000, [1, 2]]),
                 ([], [], []), (base, [[1], [1, 2, 3]], rights)]
        for fare in wrong:
            self.refuses(BadFare(), wide_fare_of, RULES, fare, WAY)
            self.refuses(BadFare(), wide_fare_of, RULES, fare, ("?", ()))
            self.refuses(BadFare(), wide_fare_holds, RULES, PLAIN, fare)
            self.refuses(BadSquare("q"), wide_fare_holds, RULES, [("q", ("", ()), ("", ()))], fare)
        self.refuses(BadWord("?"), wide_fare_of, RULES, (base, lefts, rights), ("?", ()))
        self.assertEqual(wide_fare_of(Rules("ab", []), ([], [], []), ("ab", ())), 0)
        self.refuses(BadFare(), wide_fare_of, Rules("ab", []), ([], [[1, 1]], []), ("ab", ()))

    def test_condition_1_for_every_two_rules(self):
        rules = Rules("ab", [("A", "a", ""), ("B", "b", "")])
        for lefts, rights, holds in [
                ([[0, 0], [0, 0]], [[0, 0], [0, 0]], True), ([[1, 0], [0, 0]], [[1, 0], [0, 0]], True),
                ([[1, 0], [0, 0]], [[0, 0], [0, 0]], False), ([[0, 0], [0, 0]], [[1, 0], [0, 0]], False),
                ([[0, 0], [1, 0]], [[0, 1], [0, 0]], True), ([[0, 1], [0, 0]], [[0, 0], [1, 0]], True),
                ([[0, 1], [0, 0]], [[0, 1], [0, 0]], False), ([[0, 0], [0, 5]], [[0, 0], [0, 5]], True),
                ([[0, 0], [0, 5]], [[0, 0], [0, 4]], False), ([[0, 3], [0, 0]], [[0, 0], [0, 0]], False)]:
            self.judges(holds, wide_fare_holds, rules, [], ([4, 9], lefts, rights))
        # What a rule puts in counts less: G takes out one b and puts in two a, and R1 neither.
        rules = Rules("ab", [("R1", "ba", "ab"), ("G", "bb", "aab")], weights=[1, 2])
        for lefts, rights, holds in [([1, 2], [0, 0], True), ([2, 1], [0, 0], False), ([-1, -2], [3, 6], True),
                                     ([0, 0], [2, 4], True), ([0, 0], [1, 1], False), ([1, 0], [1, 0], False)]:
            self.judges(holds, wide_fare_holds, rules, [], ([0, 0], [lefts, [0, 0]], [rights, [0, 0]]))
        for lefts, rights, holds in [([1, 0], [0, 0], False), ([1, 0], [1, 0], True), ([0, 2], [-1, 0], True),
                                     ([1, 2], [0, 0], True), ([0, 0], [1, 0], False)]:
            self.judges(holds, wide_fare_holds, rules, [], ([0, 0], [[0, 0], lefts], [[0, 0], rights]))

    def test_condition_2_equal_wide_fares_of_the_legs(self):
        self.judges(True, wide_fare_holds, TWO, [SAME], ([1, 2], [[0], [0]], [[0], [0]]))
        self.judges(False, wide_fare_holds, TWO, [SAME], ([1, 1], [[0], [0]], [[0], [0]]))
        # Legs "aa": A with one letter on the right and then with none.
        self.judges(True, wide_fare_holds, TWO, [SAME], ([1, 3], [[1], [2]], [[1], [2]]))
        self.judges(False, wide_fare_holds, TWO, [SAME], ([1, 2], [[1], [2]], [[1], [2]]))

    def test_condition_2_the_letters_beside_a_square(self):
        rules = Rules("ab", [("A", "aa", "a"), ("B", "aa", "a")])
        square = ("S", ("aa", ((1, "A", 0),)), ("aa", ((1, "B", 0),)))
        zero = [[0, 0], [0, 0]]
        # The letter b is in no rule, so condition (1) asks nothing of it.
        self.judges(True, wide_fare_holds, rules, [], ([0, 0], [[0, 1], [0, 0]], zero))
        self.judges(False, wide_fare_holds, rules, [square], ([0, 0], [[0, 1], [0, 0]], zero))
        self.judges(False, wide_fare_holds, rules, [square], ([0, 0], zero, [[0, 1], [0, 0]]))
        self.judges(True, wide_fare_holds, rules, [square], ([0, 0], [[0, 1], [0, 1]], zero))
        self.judges(True, wide_fare_holds, rules, [square], ([5, 5], [[0, 1], [0, 1]], [[0, 3], [0, 3]]))
        self.judges(False, wide_fare_holds, rules, [square], ([5, 4], [[0, 1], [0, 1]], [[0, 3], [0, 3]]))

    def holds(self, rules, squares, fare):
        """Whether the wide fare holds, by the words of point 69."""
        base, lefts, rights = fare
        letters = list(enumerate(rules.letters))
        for at, one in enumerate(rules):
            for other_at, other in enumerate(rules):
                right = sum(rights[at][spot] * (other[1].count(letter) - other[2].count(letter))
                            for spot, letter in letters)
                left = sum(lefts[other_at][spot] * (one[1].count(letter) - one[2].count(letter))
                           for spot, letter in letters)
                if right != left:
                    return False
        for square, row in zip(squares, square_rows(rules, squares)):
            if wide_fare(rules, fare, square[1]) != wide_fare(rules, fare, square[2]):
                return False
            for part in (lefts, rights):
                if any(sum(number * part[at][spot] for at, number in enumerate(row)) for spot, _ in letters):
                    return False
        return True

    def test_any_wide_fares(self):
        luck = random.Random(31)
        for rules in SAMPLES:
            if len(rules) > 3:
                continue
            squares = plain_squares(rules)[:8]
            fares = list_wide_fares(rules, squares)
            for _ in range(60):
                some = [luck.choice(fares) for _ in range(2)] if fares else []
                fare = self.sum_of(rules, some, luck)
                self.judges(self.holds(rules, squares, fare), wide_fare_holds, rules, squares, fare)

    def sum_of(self, rules, fares, luck):
        """A sum of the wide fares, sometimes with one number that is spoiled."""
        many, letters = len(rules), len(rules.letters)
        flat = [0] * (many + 2 * many * letters)
        for base, lefts, rights in fares:
            row = base + sum(lefts + rights, [])
            flat = [one + other for one, other in zip(flat, row)]
        if flat and luck.random() < 0.7:
            flat[luck.randrange(len(flat))] += luck.choice([1, -1])
        rows = [flat[at:at + letters] for at in range(many, len(flat), letters)]
        return flat[:many], rows[:many], rows[many:]

    def test_listed_wide_fares(self):
        for rules in SAMPLES:
            squares = plain_squares(rules)[:8]
            many, letters = len(rules), len(rules.letters)
            fares = list_wide_fares(rules, squares)
            flats = [base + sum(lefts + rights, []) for base, lefts, rights in fares]
            for fare, (base, lefts, rights) in zip(fares, fares):
                self.assertEqual((len(base), len(lefts), len(rights)), (many, many, many))
                self.assertEqual({len(row) for row in lefts + rights}, {letters} if many else set())
                self.judges(True, wide_fare_holds, rules, squares, fare)
                self.assertTrue(self.holds(rules, squares, fare))
            # Kernel rows: each has its own last column, that ascends, with a positive number.
            ends = [max(at for at, number in enumerate(flat) if number) for flat in flats]
            self.assertEqual(ends, sorted(set(ends)))
            self.assertTrue(all(flat[end] > 0 for flat, end in zip(flats, ends)))

    def test_the_order_of_the_columns(self):
        # No conditions but those of the rule with itself: rights minus lefts of the one letter.
        self.assertEqual(list_wide_fares(Rules("a", [("A", "a", "")]), []),
                         [([1], [[0]], [[0]]), ([0], [[1]], [[1]])])
        rules = Rules("ab", [("A", "a", "")])
        self.assertEqual(list_wide_fares(rules, []), [([1], [[0, 0]], [[0, 0]]), ([0], [[0, 1]], [[0, 0]]),
                                                      ([0], [[1, 0]], [[1, 0]]), ([0], [[0, 0]], [[0, 1]])])
        self.assertEqual(list_wide_fares(TWO, [SAME]), [([1, 2], [[0], [0]], [[0], [0]]),
                                                        ([-1, 0], [[2], [4]], [[2], [4]])])
        self.assertEqual(list_wide_fares(Rules("abc", []), []), [])

    def test_all_moves_keep_a_wide_fare_that_holds(self):
        luck = random.Random(37)
        for rules in SAMPLES:
            squares = plain_squares(rules)[:8]
            for fare in list_wide_fares(rules, squares):
                way = some_way(luck, rules, 4, 4)
                placed = set_way(rules, rules.letters, way, "a")
                for some in [way, placed]:
                    for move in list_moves(rules, squares, some, steps=len(some[1]) + 1):
                        after = do_move(rules, squares, some, move)
                        self.assertEqual(wide_fare_of(rules, fare, after), wide_fare_of(rules, fare, some))

    def test_bounds_of_the_list(self):
        loop = ("a", ())
        three = [("A", "a", ""), ("B", "aa", ""), ("C", "aaa", "")]
        squares = [(f"S{at}", ("", ()), ("", ())) for at in range(9)]
        self.assertGreater(len(list_wide_fares(Rules("abc", three), squares[:8])), 0)
        for rules, some in [(Rules("abc", three + [("D", "aaaa", "")]), []), (Rules("abcd", three), []),
                            (Rules("a", []), squares), (Rules("abcd", []), []), (Rules("abc", three), squares)]:
            self.refuses(TooMany(), list_wide_fares, rules, some)
            self.refuses(TooMany(), obstacle, rules, some, loop, wide=True)
            # The other functions have no such bound.
            self.assertIsNone(obstacle(rules, some, loop))
            self.assertIsNone(obstacle(rules, some, loop, wide=False))
            fare = self.sample(rules)
            self.assertEqual(wide_fare_of(rules, fare, loop), 0)
            self.assertEqual(wide_fare_holds(rules, some, fare), self.holds(rules, some, fare))
            self.assertEqual(len(list_fares(rules, some)), len(rules))
        wrong = [("q", ("", ()), ("", ()))]
        self.refuses(BadSquare("q"), list_wide_fares, Rules("abcd", three), wrong)
        self.refuses(BadSquare("q"), list_wide_fares, Rules("abcd", three), squares + wrong)

    def test_twelve_rules_and_six_letters(self):
        rules = Rules("abcdef", [(f"R{at}", "ab", "a") for at in range(12)])
        legs = [("ab", ((1, name, 0),)) for name in rules.names]
        squares = [(f"S{at}", legs[at % 11], legs[at % 11 + 1]) for at in range(40)]
        fare = ([5] * 12, [[1, 0, 1, 1, 1, 1]] * 12, [[1, 0, 1, 1, 1, 1]] * 12)
        self.judges(True, wide_fare_holds, rules, squares, fare)
        self.judges(False, wide_fare_holds, rules, squares, ([5] * 11 + [4],) + fare[1:])


class TestObstacles(Case):

    LOOP = ("aa", ((1, "A", 0), (1, "A", 0), (-1, "B", 0)))

    def test_the_first_fare_that_is_not_0(self):
        self.assertEqual(obstacle(TWO, [], self.LOOP), [1, 0])
        self.assertIsNone(obstacle(TWO, [SAME], self.LOOP))
        self.assertIsNone(obstacle(TWO, [], ("aa", ())))
        loop = ("aa", ((1, "B", 0), (-1, "A", 0), (1, "A", 0), (-1, "B", 0)))
        self.assertIsNone(obstacle(TWO, [], loop))
        rules = Rules("a", [("X", "aaa", "a"), ("A", "a", ""), ("B", "aa", "")])
        self.assertEqual(obstacle(rules, [], self.LOOP), [0, 1, 0])
        self.assertEqual(obstacle(rules, [("S",) + SAME[1:]], ("aaa", ((1, "X", 0), (-1, "B", 0)))), [1, 0, 0])

    def test_wide_obstacles(self):
        self.assertEqual(obstacle(TWO, [], self.LOOP, wide=True), ([1, 0], [[0], [0]], [[0], [0]]))
        self.assertIsNone(obstacle(TWO, [SAME], self.LOOP, wide=True))

    def test_a_wide_obstacle_where_no_fare_is_one(self):
        # Three letters change places in two ways; the step A has the letter c on its left, and later on its right.
        rules = Rules("abc", [("A", "ba", "ab"), ("B", "ca", "ac"), ("C", "cb", "bc")])
        loop = ("cba", ((1, "A", 1), (1, "B", 0), (1, "C", 1), (-1, "A", 0), (-1, "B", 1), (-1, "C", 0)))
        self.assertEqual(count_row(rules, loop), [0, 0, 0])
        zero = [[0, 0, 0]] * 3
        self.assertIsNone(obstacle(rules, [], loop))
        self.assertEqual(obstacle(rules, [], loop, wide=True), ([0, 0, 0], [[0, 0, 1]] + zero[1:], zero))
        self.assertIsNone(obstacle(rules, plain_squares(rules), loop, wide=True))

    def test_any_loops(self):
        luck = random.Random(41)
        for rules in SAMPLES:
            if len(rules) > 3:
                continue
            for squares in [[], plain_squares(rules)[:1]]:
                fares, wide = list_fares(rules, squares), list_wide_fares(rules, squares)
                for _ in range(40):
                    begin, steps = some_way(luck, rules, 4)
                    back = normal_way(rules, way_words(rules, (begin, steps))[-1], begin)
                    loop = begin, steps + back[1]
                    first = [fare for fare in fares if fare_of(rules, fare, loop)]
                    first_wide = [fare for fare in wide if wide_fare(rules, fare, loop)]
                    self.assertEqual(obstacle(rules, squares, loop), first[0] if first else None)
                    self.assertEqual(obstacle(rules, squares, loop, wide=True), first_wide[0] if first_wide else None)

    def test_a_loop_with_an_obstacle_cannot_be_filled(self):
        self.refuses(Lacking("aa", (1, "A", 0), (1, "B", 0)), fill_loop, TWO, [], self.LOOP)

    def test_ways_that_are_no_loops(self):
        way = ("aa", ((1, "A", 0),))
        self.refuses(BadEnds(), obstacle, TWO, [], way)
        self.refuses(BadEnds(), obstacle, TWO, [], way, wide=True)
        # Before TooMany, and behind the errors of the squares and of the way.
        self.refuses(BadEnds(), obstacle, Rules("abcd", [("A", "a", "")]), [], way, wide=True)
        self.refuses(BadSquare("q"), obstacle, TWO, [("q", ("", ()), ("", ()))], ("?", ()), wide=True)
        self.refuses(BadWord("?"), obstacle, Rules("abcd", []), [], ("?", ()), wide=True)


if __name__ == "__main__":
    unittest.main()
