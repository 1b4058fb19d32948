"""Points 44 to 49: squares.py."""

import unittest

from helpers import Case
from wayfill.down import down_way
from wayfill.errors import BadName, BadOverlap, BadSquare, BadText, Open, Repeated, TooLong, TooMany, Unjoined
from wayfill.overlaps import list_overlaps
from wayfill.rules import Rules
from wayfill.squares import answering_leg, boundary, check_squares, exchange_legs, format_square, is_square
from wayfill.squares import lacking_overlaps, parse_square, plain_square, plain_squares
from wayfill.steps import do_step
from wayfill.ways import turn_way, way_words

RULES = Rules("ab", [("R1", "ba", "ab"), ("E", "aa", "")], weights=[2, 3])
ON = (1, "R1", 0)
BACK = (-1, "R1", 0)

# "baa": over "aba", "aab" to "b", and straight to "b".
LONG_LEG = ("baa", ((1, "R1", 0), (1, "R1", 1), (1, "E", 0)))
SHORT_LEG = ("baa", ((1, "E", 1),))
SQUARE = ("Q1", LONG_LEG, SHORT_LEG)
OVERLAP = ("baa", (1, "R1", 0), (1, "E", 1))
HUGE = 10 ** 18 - 1

SAMPLES = [
    Rules("ab", []),
    Rules("a", [("R1", "aa", "a")]),
    Rules("a", [("R1", "aaa", "a")]),
    RULES,
    Rules("ab", [("R1", "ba", "ab"), ("R2", "aa", "a"), ("R3", "bb", "b")]),
    Rules("ab", [("R1", "aba", "b"), ("R2", "bba", "abb")]),
    Rules("abc", [("A", "ba", "ab"), ("B", "ca", "ac"), ("C", "cb", "bc")]),
]

# Going down from one letter b takes 15 steps and ends at the empty word.
STAIRS = [("B", "b", "dd"), ("D", "d", "ee"), ("E", "e", "ff"), ("F", "f", "")]


def to_and_fro(many):
    """A way with so many steps, from "ba" on."""
    return "ba", (ON, BACK) * (many // 2) + (ON,) * (many % 2)


class TestJudging(Case):

    def test_squares(self):
        self.judges(True, is_square, RULES, SQUARE)
        self.judges(True, is_square, RULES, ("R1", SHORT_LEG, LONG_LEG))

    def test_equal_legs_empty_legs_and_steps_back(self):
        self.judges(True, is_square, RULES, ("Q1", LONG_LEG, LONG_LEG))
        self.judges(True, is_square, RULES, ("Q1", ("ab", ()), ("ab", ())))
        self.judges(True, is_square, RULES, ("Q1", ("", ()), ("", ((-1, "E", 0), (1, "E", 0)))))
        self.judges(True, is_square, RULES, ("Q1", turn_way(RULES, LONG_LEG), turn_way(RULES, SHORT_LEG)))
        self.judges(True, is_square, RULES, ("Q1", ("ba", ()), to_and_fro(120)))

    def test_other_begins_and_ends(self):
        self.judges(False, is_square, RULES, ("Q1", ("ab", ()), ("ba", ())))
        self.judges(False, is_square, RULES, ("Q1", LONG_LEG, ("baa", ())))
        self.judges(False, is_square, RULES, ("Q1", ("ba", ()), to_and_fro(119)))
        # The same end alone, and the same begin alone.
        self.judges(False, is_square, RULES, ("Q1", ("ba", (ON,)), ("ab", ())))
        self.judges(False, is_square, RULES, ("Q1", LONG_LEG, ("b", ())))
        self.judges(False, is_square, RULES, ("Q1", LONG_LEG, ("baa", (ON,))))

    def test_names_that_are_none(self):
        for name in ["", "q1", "1Q", "Q" * 9, "Q 1", "?", "-"]:
            self.judges(False, is_square, RULES, (name, LONG_LEG, SHORT_LEG))
            self.refuses(BadSquare(name), check_squares, RULES, [(name, LONG_LEG, SHORT_LEG)])
        for name in ["Q", "Z9999999", "R1", "E"]:
            self.judges(True, is_square, RULES, (name, LONG_LEG, SHORT_LEG))

    def test_legs_that_are_no_ways(self):
        for leg in [("bac", ()), ("a" * 33, ()), ("baa", ((1, "R9", 0),)), ("baa", ((1, "E", 0),)),
                    ("baa", ((0, "R1", 0),)), ("baa", ((1, "R1", -1),)), ("baa", ((1, "R1", HUGE),)), to_and_fro(121),
                    ("a" * 31, ((-1, "E", 0), (1, "E", 0)))]:
            self.judges(False, is_square, RULES, ("Q1", leg, leg))
            self.judges(False, is_square, RULES, ("Q1", LONG_LEG, leg))
            self.judges(False, is_square, RULES, ("Q1", leg, SHORT_LEG))
            for call in [check_squares, lacking_overlaps]:
                self.refuses(BadSquare("Q1"), call, RULES, [("Q1", leg, leg)])
            self.refuses(BadSquare("Q1"), boundary, RULES, ("Q1", leg, leg))
            self.refuses(BadSquare("Q1"), answering_leg, RULES, ("Q1", leg, leg), OVERLAP)


class TestChecking(Case):

    def many(self, number):
        return [(f"S{at}", LONG_LEG, SHORT_LEG) for at in range(number)]

    def test_right_lists(self):
        self.assertIsNone(check_squares(RULES, []))
        self.assertIsNone(check_squares(RULES, self.many(40)))

    def test_40_and_41_squares(self):
        for call in [check_squares, lacking_overlaps]:
            self.refuses(TooMany(), call, RULES, self.many(41))
            self.refuses(TooMany(), call, RULES, [("?", ("?", ()), ("", ()))] * 41)
            self.refuses(TooMany(), call, RULES, [SQUARE] * 1000)
        self.assertEqual(lacking_overlaps(RULES, self.many(40)), [("aaa", (1, "E", 0), (1, "E", 1))])

    def test_entry_by_entry(self):
        wrong = ("Q1", ("?", ()), ("", ()))
        for call in [check_squares, lacking_overlaps]:
            self.refuses(Repeated("Q1"), call, RULES, [SQUARE, SQUARE])
            self.refuses(Repeated("Q1"), call, RULES, [SQUARE, ("Q2", LONG_LEG, SHORT_LEG), exchange_legs(SQUARE)])
            # A wrong square of a repeated name is a wrong square.
            self.refuses(BadSquare("Q1"), call, RULES, [SQUARE, wrong])
            self.refuses(Repeated("Q1"), call, RULES, [SQUARE, SQUARE, ("Q2", ("?", ()), ("", ()))])
            self.refuses(BadSquare("Q2"), call, RULES, [SQUARE, ("Q2", ("?", ()), ("", ())), SQUARE])


class TestAnswers(Case):

    def test_either_leg_may_begin_with_one(self):
        self.assertEqual(answering_leg(RULES, SQUARE, OVERLAP), 0)
        self.assertEqual(answering_leg(RULES, exchange_legs(SQUARE), OVERLAP), 1)

    def test_a_leg_of_one_step_alone(self):
        rules = Rules("ab", [("R1", "ab", "a"), ("R2", "ab", "a")])
        overlap = ("ab", (1, "R1", 0), (1, "R2", 0))
        self.assertEqual(answering_leg(rules, ("Q", ("ab", (overlap[1],)), ("ab", (overlap[2],))), overlap), 0)
        self.assertEqual(answering_leg(rules, ("Q", ("ab", (overlap[2],)), ("ab", (overlap[1],))), overlap), 1)

    def test_squares_that_do_not_answer(self):
        detour = ("baa", LONG_LEG[1] + ((-1, "E", 0), (1, "E", 0)))
        for one, other in [(LONG_LEG, LONG_LEG), (SHORT_LEG, SHORT_LEG), (detour, SHORT_LEG), (SHORT_LEG, detour),
                           (LONG_LEG, ("baa", SHORT_LEG[1] + ((-1, "E", 1), (1, "E", 1)))),
                           (("baa", ()), ("baa", ())), (turn_way(RULES, LONG_LEG), turn_way(RULES, SHORT_LEG))]:
            self.assertIsNone(answering_leg(RULES, ("Q1", one, other), OVERLAP))
            self.assertIn(OVERLAP, lacking_overlaps(RULES, [("Q1", one, other)]))
        # One leg is empty: the word of the overlap alone is not enough.
        loop = ("baa", ((1, "R1", 0), (-1, "R1", 0)))
        self.assertIsNone(answering_leg(RULES, ("Q1", ("baa", ()), loop), OVERLAP))
        # The same steps in a longer word.
        longer = ("Q1", ("baab", LONG_LEG[1]), ("baab", SHORT_LEG[1]))
        self.judges(True, is_square, RULES, longer)
        self.assertIsNone(answering_leg(RULES, longer, OVERLAP))

    def test_another_overlap_with_the_same_word(self):
        rules = Rules("ab", [("R1", "ab", "a"), ("R2", "ab", "a"), ("R3", "ab", "a")])
        legs = [("ab", ((1, name, 0),)) for name in rules.names]
        overlaps = list_overlaps(rules)
        square = ("Q", legs[2], legs[0])
        self.assertEqual([answering_leg(rules, square, overlap) for overlap in overlaps], [None, 1, None])

    def test_errors_in_order(self):
        self.refuses(BadSquare("Q1"), answering_leg, RULES, ("Q1", LONG_LEG, ("b", ())), ("?", ON, ON))
        for overlap in [("?", ON, ON), ("baa", OVERLAP[2], OVERLAP[1]), ("baa", ON, (1, "R9", 0)),
                        ("baab",) + OVERLAP[1:], ("baa", ON, (1, "E", -1)), ("baa", ON, (-1, "E", 1)),
                        ("baa", (5, "R1", 0), (1, "E", 1))]:
            self.refuses(BadOverlap(), answering_leg, RULES, SQUARE, overlap)

    def test_lacking_overlaps_in_order(self):
        overlaps = list_overlaps(RULES)
        self.assertEqual(overlaps, [OVERLAP, ("aaa", (1, "E", 0), (1, "E", 1))])
        self.assertEqual(lacking_overlaps(RULES, []), overlaps)
        self.assertEqual(lacking_overlaps(RULES, [SQUARE]), overlaps[1:])
        self.assertEqual(lacking_overlaps(RULES, [exchange_legs(SQUARE)]), overlaps[1:])
        for rules in SAMPLES:
            squares = plain_squares(rules)
            for at, square in enumerate(squares):
                self.assertEqual(lacking_overlaps(rules, squares[:at] + squares[at + 1:]), [list_overlaps(rules)[at]])
            self.assertEqual(lacking_overlaps(rules, squares[::-1]), [])

    def test_200_and_201_overlaps(self):
        rows = [(f"A{at}", "a" * 8, "") for at in range(5)] + [("B1", "b" * 5, ""), ("B2", "b" * 4, "")]
        self.assertEqual(len(lacking_overlaps(Rules("abc", rows), [])), 200)
        more = Rules("abc", rows + [("C", "cc", "")])
        self.refuses(TooMany(), lacking_overlaps, more, [])
        self.refuses(BadSquare("Q1"), lacking_overlaps, more, [("Q1", ("?", ()), ("", ()))])


class TestPlainSquares(Case):

    def test_one(self):
        self.assertEqual(plain_square(RULES, OVERLAP, name="X"), ("X", LONG_LEG, SHORT_LEG))

    def test_legs_go_down(self):
        for rules in SAMPLES:
            overlaps = list_overlaps(rules)
            squares = plain_squares(rules)
            self.assertEqual([square[0] for square in squares], [f"Q{at + 1}" for at in range(len(overlaps))])
            for overlap, (name, one, other) in zip(overlaps, squares):
                for leg, step in [(one, overlap[1]), (other, overlap[2])]:
                    self.assertEqual(leg, (overlap[0], (step,) + down_way(rules, do_step(rules, overlap[0], step))[1]))
                self.judges(True, is_square, rules, (name, one, other))
                self.assertEqual(answering_leg(rules, (name, one, other), overlap), 0)
                self.assertEqual(plain_square(rules, overlap, name=name), (name, one, other))

    def test_names_whatever_the_rules_are_called(self):
        rules = Rules("a", [("Q1", "aa", "a"), ("Q2", "aaa", "a")])
        self.assertEqual([square[0] for square in plain_squares(rules)], ["Q1", "Q2", "Q3", "Q4", "Q5", "Q6", "Q7"])

    def test_40_and_41_overlaps(self):
        rows = [(letter.upper(), letter * 8, "") for letter in "acdef"]
        forty = Rules("abcdef", rows + [("B", "b" * 6, "")])
        self.assertEqual(len(plain_squares(forty)), 40)
        self.assertEqual(plain_squares(forty)[-1][0], "Q40")
        more = Rules("abcdef", rows + [("B", "b" * 7, "")])
        self.assertEqual(len(list_overlaps(more)), 41)
        self.refuses(TooMany(), plain_squares, more)
        # Also where the first overlap is open.
        rows = [("X", "ab", "a"), ("Y", "ab", "b")] + rows + [("B", "b" * 5, "")]
        self.refuses(Open("ab", (1, "X", 0), (1, "Y", 0)), plain_squares, Rules("abcdef", rows[:-1]))
        self.assertGreater(len(list_overlaps(Rules("abcdef", rows))), 40)
        self.refuses(TooMany(), plain_squares, Rules("abcdef", rows))

    def test_open_overlaps(self):
        rules = Rules("ab", [("R1", "aba", "b")])
        overlap = ("ababa", (1, "R1", 0), (1, "R1", 2))
        self.refuses(Open(*overlap), plain_squares, rules)
        self.refuses(Unjoined("bba", "abb"), plain_square, rules, overlap, name="X")
        rules = Rules("ab", [("R1", "ab", "a"), ("R3", "ab", "a"), ("R2", "ab", "b")])
        self.refuses(Open("ab", (1, "R1", 0), (1, "R2", 0)), plain_squares, rules)
        self.refuses(Unjoined("b", "a"), plain_square,
                     Rules("ab", [("R2", "ab", "b"), ("R1", "ab", "a")]), ("ab", (1, "R2", 0), (1, "R1", 0)), name="X")

    def test_errors_in_order(self):
        rules = Rules("ab", [("R1", "ab", "a"), ("R2", "ab", "b")])
        overlap = ("ab", (1, "R1", 0), (1, "R2", 0))
        self.refuses(BadOverlap(), plain_square, rules, ("ab", overlap[2], overlap[1]), name="?")
        self.refuses(BadName("?"), plain_square, rules, overlap, name="?")
        self.refuses(BadName(""), plain_square, rules, overlap, name="")
        self.refuses(Unjoined("a", "b"), plain_square, rules, overlap, name="R1")

    def stairs(self, first, second):
        """Rules whose two first ones have the same left side, and their overlap; 14 steps lead down from c."""
        rows = [("X", "aa", first), ("Y", "aa", second), ("C", "c", "dee")]
        rules = Rules("abcdef", rows + STAIRS, weights=[99, 15, 14, 7, 3, 1])
        return rules, ("aa", (1, "X", 0), (1, "Y", 0))

    def test_legs_of_120_and_121_steps(self):
        for first, second in [("b" * 7 + "c", ""), ("", "b" * 7 + "c")]:
            square = plain_square(*self.stairs(first, second), name="Z")
            self.assertEqual(sorted([len(leg[1]) for leg in square[1:]]), [1, 120])
        for first, second in [("b" * 8, ""), ("", "b" * 8)]:
            self.assertEqual(len(down_way(self.stairs(first, second)[0], "b" * 8)[1]), 120)
            self.refuses(TooLong(), plain_square, *self.stairs(first, second), name="Z")

    def test_a_long_leg_goes_before_last_words_that_differ(self):
        self.refuses(Unjoined("", "a"), plain_square, *self.stairs("b" * 7 + "c", "a"), name="Z")
        self.refuses(TooLong(), plain_square, *self.stairs("b" * 8, "a"), name="Z")
        self.refuses(TooLong(), plain_square, *self.stairs("a", "b" * 8), name="Z")
        for many, error in [(8, TooLong()), (7, Open("ac", (1, "X", 0), (1, "Y", 0)))]:
            rows = [("X", "ac", "a"), ("Y", "ac", "b" * many)]
            self.refuses(error, plain_squares, Rules("abcdef", rows + STAIRS, weights=[99, 15, 99, 7, 3, 1]))

    def test_errors_of_going_down(self):
        rows = [("X", "ac", "a"), ("Y", "ac", "d"), ("D", "d", "e" * 8), ("E", "e", "f" * 8)]
        rules = Rules("abcdef", rows, weights=[99, 1, 99, 97, 9, 1])
        self.refuses(TooLong(), plain_square, rules, ("ac", (1, "X", 0), (1, "Y", 0)), name="Z")
        self.refuses(TooLong(), plain_squares, rules)


class TestBoundaries(Case):

    def test_boundary(self):
        self.assertEqual(boundary(RULES, SQUARE), ("baa", LONG_LEG[1] + ((-1, "E", 1),)))
        self.assertEqual(boundary(RULES, exchange_legs(SQUARE)),
                         ("baa", ((1, "E", 1), (-1, "E", 0), (-1, "R1", 1), (-1, "R1", 0))))
        self.assertEqual(boundary(RULES, ("Q", ("ab", ()), ("ab", ()))), ("ab", ()))

    def test_120_and_121_steps(self):
        way = boundary(RULES, ("Q", to_and_fro(60), to_and_fro(60)))
        self.assertEqual((len(way[1]), way_words(RULES, way)[-1]), (120, "ba"))
        self.assertEqual(way, to_and_fro(120))
        self.assertEqual(boundary(RULES, ("Q", to_and_fro(120), ("ba", ()))), to_and_fro(120))
        self.refuses(TooLong(), boundary, RULES, ("Q", to_and_fro(60), to_and_fro(62)))
        self.refuses(TooLong(), boundary, RULES, ("Q", to_and_fro(61), to_and_fro(61)))
        self.refuses(BadSquare("q"), boundary, RULES, ("q", to_and_fro(60), to_and_fro(62)))

    def test_exchanged_legs(self):
        self.assertEqual(exchange_legs(SQUARE), ("Q1", SHORT_LEG, LONG_LEG))
        # Nothing is examined.
        self.assertEqual(exchange_legs(("?", ("?", ((5, "?", -1),)), ("a" * 99, ()))),
                         ("?", ("a" * 99, ()), ("?", ((5, "?", -1),))))


class TestText(Case):

    TEXT = "Q1 baa R1+0 R1+1 E+0 = baa E+1"

    def test_there_and_back(self):
        self.assertEqual(format_square(SQUARE), self.TEXT)
        self.assertEqual(parse_square(RULES, self.TEXT), SQUARE)
        for square in [exchange_legs(SQUARE), ("Q", ("", ()), ("", ())), ("R1", to_and_fro(120), to_and_fro(118)),
                       ("Z9999999", turn_way(RULES, LONG_LEG), turn_way(RULES, SHORT_LEG)),
                       ("Q", ("", ()), ("", ((-1, "E", 0), (1, "E", 0))))]:
            self.assertEqual(parse_square(RULES, format_square(square)), square)
        self.assertEqual(format_square(("Q", ("", ()), ("", ()))), "Q - = -")

    def test_nothing_is_examined_in_writing(self):
        self.assertEqual(format_square(("?", ("zz", ((-1, "X", 999),)), ("", ((1, "", 0),)))), "? zz X-999 = - +0")

    def test_parsed_steps_are_tuples(self):
        name, one, other = parse_square(RULES, self.TEXT)
        self.assertIsInstance(one[1], tuple)
        self.assertIsInstance(other[1], tuple)

    def test_every_piece(self):
        pieces = self.TEXT.split(" ")
        for at in range(len(pieces)):
            for wrong in ["", "?", "R1+9", "R9+0", "baac", "1Q"]:
                text = " ".join(pieces[:at] + [wrong] + pieces[at + 1:])
                self.refuses(BadText(at + 1), parse_square, RULES, text)

    def test_a_wrong_name(self):
        for text in ["", " ", "q1", "1Q baa = baa", "= baa = baa", " Q1 baa = baa", "Q" * 9, "?" * 5000]:
            self.refuses(BadText(1), parse_square, RULES, text)

    def test_an_equals_sign_as_the_second_piece(self):
        for text in ["Q =", "Q = baa = baa", "Q = = =", "Q = -"]:
            self.refuses(BadText(2), parse_square, RULES, text)

    def test_no_equals_sign(self):
        self.refuses(BadText(3), parse_square, RULES, "Q baa")
        self.refuses(BadText(4), parse_square, RULES, "Q baa R1+0")
        self.refuses(BadText(6), parse_square, RULES, "Q baa R1+0 R1+1 E+0")
        # A wrong piece goes first.
        self.refuses(BadText(4), parse_square, RULES, "Q baa R1+0 R1+0 E+0")
        self.refuses(BadText(4), parse_square, RULES, "Q baa R1+0 == baa")

    def test_texts_that_end_early(self):
        self.refuses(BadText(2), parse_square, RULES, "Q")
        self.refuses(BadText(2), parse_square, RULES, "Q ")
        self.refuses(BadText(4), parse_square, RULES, "Q baa =")
        self.refuses(BadText(4), parse_square, RULES, "Q baa = ")
        self.refuses(BadText(5), parse_square, RULES, "Q baa E+1 =")
        self.refuses(BadText(5), parse_square, RULES, "Q baa = baa ")
        self.refuses(BadText(3), parse_square, RULES, "Q baa ")

    def test_further_equals_signs(self):
        self.refuses(BadText(4), parse_square, RULES, "Q baa = = baa")
        self.refuses(BadText(5), parse_square, RULES, "Q baa = baa =")
        self.refuses(BadText(6), parse_square, RULES, "Q baa = baa E+1 = baa")

    def test_begins_and_ends_that_differ(self):
        self.refuses(BadText(5), parse_square, RULES, "Q baa = aba")
        self.refuses(BadText(6), parse_square, RULES, "Q baa E+1 = baa")
        self.refuses(BadText(6), parse_square, RULES, "Q baa = baa E+1")
        self.refuses(BadText(6), parse_square, RULES, "Q ba R1+0 = ab")
        # Leg 1 is read from its own begin first.
        self.refuses(BadText(6), parse_square, RULES, "Q baa E+1 = ab E+1")
        self.refuses(BadText(7), parse_square, RULES, "Q baa E+1 = aab E+0")

    def test_two_spaces_side_by_side(self):
        for at in range(1, 7):
            pieces = self.TEXT.split(" ")
            text = " ".join(pieces[:at]) + "  " + " ".join(pieces[at:])
            self.refuses(BadText(at + 1), parse_square, RULES, text)

    def test_the_121st_step(self):
        legs = [format_square(("Q", to_and_fro(many), to_and_fro(many))) for many in (120, 121)]
        self.assertEqual(len(parse_square(RULES, legs[0])[1][1]), 120)
        self.refuses(BadText(123), parse_square, RULES, legs[1])
        other = format_square(("Q", to_and_fro(1), to_and_fro(121)))
        self.refuses(BadText(126), parse_square, RULES, other)


if __name__ == "__main__":
    unittest.main()
