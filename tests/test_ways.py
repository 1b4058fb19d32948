"""Points 30 to 34: ways.py."""

import unittest

from helpers import Case
from wayfill.errors import BadEnds, BadNumber, BadStep, BadText, BadWord, TooLong, Unknown
from wayfill.rules import Rules
from wayfill.ways import check_way, cut_way, format_way, is_on, is_way, join_ways, leads_to, parse_way, set_way
from wayfill.ways import turn_way, way_end, way_words

RULES = Rules("ab", [("R1", "ba", "ab"), ("E", "aa", ""), ("G", "b", "aaa")], weights=[1, 9])
ON = (1, "R1", 0)
BACK = (-1, "R1", 0)
HUGE = 10 ** 18 - 1

# "bab" becomes "abb", "aaaab", "aab", "b".
DOWN = ("bab", ((1, "R1", 0), (1, "G", 1), (1, "E", 0), (1, "E", 0)))
WORDS = ["bab", "abb", "aaaab", "aab", "b"]

EXAMINING = [check_way, way_words, way_end, is_on, turn_way,
             lambda rules, way: join_ways(rules, way, ("c", ())),
             lambda rules, way: join_ways(rules, ("", ()), way),
             lambda rules, way: set_way(rules, "", way, "c"),
             lambda rules, way: cut_way(rules, way, -1, -1)]


def to_and_fro(many):
    """A way with so many steps, from "ba" on."""
    return "ba", (ON, BACK) * (many // 2) + (ON,) * (many % 2)


class TestWays(Case):

    def test_words_and_ends(self):
        self.assertEqual(way_words(RULES, DOWN), WORDS)
        self.assertEqual(way_end(RULES, DOWN), "b")
        self.assertIsNone(check_way(RULES, DOWN))
        self.judges(True, is_way, RULES, DOWN)

    def test_empty_ways(self):
        for word in ["", "ab", "a" * 32]:
            self.assertEqual(way_words(RULES, (word, ())), [word])
            self.assertEqual(way_end(RULES, (word, ())), word)
            self.judges(True, is_way, RULES, (word, ()))
            self.judges(True, is_on, RULES, (word, ()))

    def test_steps_on(self):
        self.judges(True, is_on, RULES, DOWN)
        self.judges(False, is_on, RULES, ("ab", (BACK,)))
        self.judges(False, is_on, RULES, ("ba", (ON, BACK)))
        self.judges(False, is_on, RULES, ("ab", (BACK, ON)))

    def test_120_steps_and_121(self):
        self.judges(True, is_way, RULES, to_and_fro(120))
        self.assertEqual(len(way_words(RULES, to_and_fro(120))), 121)
        self.judges(False, is_way, RULES, to_and_fro(121))
        for call in EXAMINING:
            self.refuses(TooLong(), call, RULES, to_and_fro(121))
            self.refuses(TooLong(), call, RULES, ("ba", ((1, "?", 0),) * 1000))

    def test_the_begin_comes_first(self):
        for call in EXAMINING:
            self.refuses(BadWord("bac"), call, RULES, ("bac", (ON,) * 121))
            self.refuses(BadWord("-"), call, RULES, ("-", ()))
            self.refuses(TooLong(), call, RULES, ("a" * 33, ((1, "?", 0),)))
        self.judges(False, is_way, RULES, ("bac", ()))
        self.judges(False, is_way, RULES, ("a" * 33, ()))

    def test_each_step_with_its_index(self):
        for call in EXAMINING:
            self.refuses(BadStep(0), call, RULES, ("ab", (ON,)))
            self.refuses(BadStep(1), call, RULES, ("ba", (ON, ON)))
            self.refuses(BadStep(3), call, RULES, ("ba", (ON, BACK, ON, (5, "R1", 0), (1, "?", 0))))
            self.refuses(BadStep(119), call, RULES, ("ba", to_and_fro(119)[1] + ((1, "R1", -1),)))
            self.refuses(Unknown("R9"), call, RULES, ("ba", (ON, (1, "R9", 0), ON)))
            self.refuses(Unknown(""), call, RULES, ("ba", ((5, "", HUGE),)))
        for steps in [(ON, ON), ((1, "R9", 0),), ((1, "R1", HUGE),), ((0, "R1", 0),)]:
            self.judges(False, is_way, RULES, ("ba", steps))

    def test_words_of_32_and_33_letters(self):
        insert = (-1, "E", 0)
        self.assertEqual(way_end(RULES, ("a" * 30, (insert,))), "a" * 32)
        for call in EXAMINING:
            self.refuses(TooLong(), call, RULES, ("a" * 31, (insert,)))
            # Also if the way would be right again at its end.
            self.refuses(TooLong(), call, RULES, ("a" * 31, (insert, (1, "E", 0))))
        self.judges(False, is_way, RULES, ("a" * 31, (insert, (1, "E", 0))))


class TestJoining(Case):

    def test_joined_ways(self):
        self.assertEqual(join_ways(RULES, ("ba", (ON,)), ("ab", (BACK, ON))), ("ba", (ON, BACK, ON)))
        self.assertEqual(join_ways(RULES, ("ba", ()), ("ba", (ON,))), ("ba", (ON,)))
        self.assertEqual(join_ways(RULES, ("ba", (ON,)), ("ab", ())), ("ba", (ON,)))
        self.assertEqual(join_ways(RULES, ("", ()), ("", ())), ("", ()))

    def test_ends_that_differ(self):
        self.refuses(BadEnds(), join_ways, RULES, ("ba", (ON,)), ("ba", (ON,)))
        self.refuses(BadEnds(), join_ways, RULES, ("ba", ()), ("", ()))
        self.refuses(BadEnds(), join_ways, RULES, to_and_fro(61), to_and_fro(60))

    def test_60_and_60_and_60_and_61_steps(self):
        joined = join_ways(RULES, to_and_fro(60), to_and_fro(60))
        self.assertEqual(joined, to_and_fro(120))
        self.refuses(TooLong(), join_ways, RULES, to_and_fro(60), to_and_fro(61))

    def test_the_second_way_is_examined(self):
        self.refuses(BadStep(1), join_ways, RULES, to_and_fro(1), ("ba", (ON, ON)))
        self.refuses(BadWord("c"), join_ways, RULES, to_and_fro(1), ("c", ()))
        self.refuses(BadWord("d"), join_ways, RULES, ("d", ()), ("c", ()))


class TestTurning(Case):

    def test_turned_ways(self):
        turned = ("b", ((-1, "E", 0), (-1, "E", 0), (-1, "G", 1), (-1, "R1", 0)))
        self.assertEqual(turn_way(RULES, DOWN), turned)
        self.assertEqual(turn_way(RULES, turned), DOWN)
        self.assertEqual(way_words(RULES, turned), WORDS[::-1])

    def test_the_empty_way(self):
        self.assertEqual(turn_way(RULES, ("ab", ())), ("ab", ()))


class TestSetting(Case):

    def test_set_ways(self):
        placed = set_way(RULES, "aab", DOWN, "ba")
        self.assertEqual(placed, ("aabbabba", ((1, "R1", 3), (1, "G", 4), (1, "E", 3), (1, "E", 3))))
        self.assertEqual(way_words(RULES, placed), ["aab" + word + "ba" for word in WORDS])
        self.assertEqual(set_way(RULES, "", DOWN, ""), DOWN)
        self.assertEqual(set_way(RULES, "a", ("", ()), "b"), ("ab", ()))

    def test_words_of_32_and_33_letters(self):
        # The longest visited word has 5 letters and is neither the begin nor the end.
        self.assertEqual(set_way(RULES, "a" * 20, DOWN, "b" * 7)[0], "a" * 20 + "bab" + "b" * 7)
        self.refuses(TooLong(), set_way, RULES, "a" * 20, DOWN, "b" * 8)
        self.refuses(TooLong(), set_way, RULES, "a" * 21, DOWN, "b" * 7)
        self.assertEqual(set_way(RULES, "a" * 32, ("", ()), ""), ("a" * 32, ()))
        self.refuses(TooLong(), set_way, RULES, "a" * 32, ("", ()), "a")

    def test_the_order_of_the_arguments(self):
        self.refuses(BadWord("c"), set_way, RULES, "c", ("d", ()), "e")
        self.refuses(TooLong(), set_way, RULES, "a" * 33, ("d", ()), "e")
        self.refuses(BadWord("d"), set_way, RULES, "a" * 32, ("d", ()), "e")
        self.refuses(BadWord("e"), set_way, RULES, "a" * 32, ("a", ()), "e")
        self.refuses(TooLong(), set_way, RULES, "", ("", ()), "a" * 33)


class TestCutting(Case):

    def test_all_parts(self):
        for first in range(5):
            for last in range(first, 5):
                part = cut_way(RULES, DOWN, first, last)
                self.assertEqual(part, (WORDS[first], DOWN[1][first:last]))
                self.assertEqual(way_words(RULES, part), WORDS[first:last + 1])

    def test_ends_and_equal_numbers(self):
        self.assertEqual(cut_way(RULES, DOWN, 0, 4), DOWN)
        self.assertEqual(cut_way(RULES, DOWN, 0, 0), ("bab", ()))
        self.assertEqual(cut_way(RULES, DOWN, 4, 4), ("b", ()))
        self.assertEqual(cut_way(RULES, ("ab", ()), 0, 0), ("ab", ()))

    def test_numbers_out_of_range(self):
        for first in [-1, 5, HUGE, -HUGE]:
            self.refuses(BadNumber(first), cut_way, RULES, DOWN, first, 99)
        for last in [-1, 1, 5, HUGE, -HUGE]:
            self.refuses(BadNumber(last), cut_way, RULES, DOWN, 2, last)
        self.refuses(BadNumber(-1), cut_way, RULES, DOWN, -1, -2)
        self.refuses(BadNumber(3), cut_way, RULES, DOWN, 4, 3)


class TestLeading(Case):

    def test_leads_to(self):
        self.judges(True, leads_to, RULES, DOWN, "bab", "b")
        self.judges(True, leads_to, RULES, ("ab", ()), "ab", "ab")
        self.judges(False, leads_to, RULES, DOWN, "bab", "bb")
        self.judges(False, leads_to, RULES, DOWN, "b", "b")
        self.judges(False, leads_to, RULES, DOWN, "b", "bab")

    def test_arguments_that_are_not_valid(self):
        self.judges(False, leads_to, RULES, ("ba", (ON, ON)), "ba", "ab")
        self.judges(False, leads_to, RULES, ("ba", ((1, "R9", 0),)), "ba", "ab")
        self.judges(False, leads_to, RULES, ("c", ()), "c", "c")
        self.judges(False, leads_to, RULES, ("a" * 33, ()), "a" * 33, "a" * 33)
        self.judges(False, leads_to, RULES, DOWN, "bac", "b")
        self.judges(False, leads_to, RULES, DOWN, "bab", "b" * 33)
        self.judges(False, leads_to, RULES, to_and_fro(121), "ba", "ab")


class TestText(Case):

    def test_format(self):
        self.assertEqual(format_way(DOWN), "bab R1+0 G+1 E+0 E+0")
        self.assertEqual(format_way(("", ())), "-")
        self.assertEqual(format_way(("", ((-1, "E", 0), (1, "E", 123)))), "- E-0 E+123")

    def test_nothing_is_examined(self):
        self.assertEqual(format_way(("a" * 33, ((1, "Q", 999),) * 2)), "a" * 33 + " Q+999 Q+999")
        self.assertEqual(format_way(("zz", ((-1, "NONE", 10),))), "zz NONE-10")

    def test_there_and_back(self):
        for way in [DOWN, turn_way(RULES, DOWN), ("", ()), ("a" * 32, ()), to_and_fro(120),
                    ("a" * 30, ((-1, "E", 30), (1, "E", 9)))]:
            self.assertEqual(parse_way(RULES, format_way(way)), way)

    def test_the_parsed_form(self):
        begin, steps = parse_way(RULES, "ba R1+0")
        self.assertEqual((begin, steps), ("ba", ((1, "R1", 0),)))
        self.assertIsInstance(steps, tuple)

    def test_a_wrong_begin(self):
        for text in ["", " ", "c", "--", " ba", "a" * 33, "R1+0", "ba+R1", "?" * 5000, " R1+0"]:
            self.refuses(BadText(1), parse_way, RULES, text)
            self.refuses(BadText(1), parse_way, RULES, text + " R1+0")

    def test_a_wrong_step(self):
        for piece in ["", "R1", "R1+", "+0", "R1 0", "R1*0", "R1+00", "R1+01", "R1+0000", "R1+1000", "R1+a", "R1++0",
                      "R1+-0", "R1-+0", "R1--0", "+R1+0", "r1+0", "R9+0", "R1+1", "R1-0", "E+0", "R1+0?", "R1+0+0",
                      "1+R1", "R1+ 0", "ba", "-", "="]:
            self.refuses(BadText(2), parse_way, RULES, "ba " + piece)
            self.refuses(BadText(2), parse_way, RULES, "ba " + piece + " ?")
            self.refuses(BadText(4), parse_way, RULES, "ba R1+0 R1-0 " + piece)

    def test_spaces(self):
        self.refuses(BadText(2), parse_way, RULES, "ba  R1+0")
        self.refuses(BadText(2), parse_way, RULES, "ba ")
        self.refuses(BadText(3), parse_way, RULES, "ba R1+0 ")
        self.refuses(BadText(3), parse_way, RULES, "ba R1+0  R1-0")

    def test_a_step_that_does_not_fit_the_word_it_stands_at(self):
        self.refuses(BadText(3), parse_way, RULES, "ba R1+0 R1+0")
        self.refuses(BadText(5), parse_way, RULES, "ba R1+0 R1-0 R1+0 R1+0 R1-0")
        self.refuses(BadText(2), parse_way, RULES, "a" * 31 + " E-0")
        self.refuses(BadText(3), parse_way, RULES, "a" * 29 + " E-0 E-0")
        self.assertEqual(len(parse_way(RULES, "a" * 30 + " E-30")[1]), 1)

    def test_the_121st_step(self):
        text = format_way(to_and_fro(121))
        self.refuses(BadText(122), parse_way, RULES, text)
        self.refuses(BadText(122), parse_way, RULES, text + " R1-0 ?")
        pieces = text.split(" ")
        pieces[120] = "?"
        self.refuses(BadText(121), parse_way, RULES, " ".join(pieces))
        pieces[120:] = ["R1-0", "?", "R1+0"]
        self.refuses(BadText(122), parse_way, RULES, " ".join(pieces))


if __name__ == "__main__":
    unittest.main()
