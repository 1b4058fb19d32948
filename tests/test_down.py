"""Points 35 to 38: down.py."""

import itertools
import math
import unittest

from helpers import Case
from wayfill.down import all_meet, count_down, down_way, first_step, is_last, last_word, longest_down, lower_words
from wayfill.down import normal_way, same_last
from wayfill.errors import BadWord, TooLong, TooMany, Unjoined
from wayfill.rules import Rules
from wayfill.steps import do_step, steps_on
from wayfill.ways import is_on, leads_to, turn_way, way_end
from wayfill.words import sort_words

SORT = Rules("ab", [("R1", "ba", "ab")])
GROW = Rules("ab", [("R1", "a", "bb")], weights=[3, 1])

# A counter of three digits before an f; it counts down through 125 words one by one.
DIGITS = "edcba"
COUNTER = Rules("abcdef", [(f"A{at}", DIGITS[at] + "f", DIGITS[at + 1] + "f") for at in range(4)]
                + [(f"B{at}", DIGITS[at] + "af", DIGITS[at + 1] + "ef") for at in range(4)]
                + [(f"C{at}", DIGITS[at] + "aaf", DIGITS[at + 1] + "eef") for at in range(4)])

ONE_WORD = [first_step, is_last, down_way, last_word, lower_words, count_down, longest_down, all_meet]


class TestFirstSteps(Case):

    def test_the_smallest_place_comes_first(self):
        rules = Rules("ab", [("R1", "aab", ""), ("R2", "ba", "a")])
        self.assertEqual(first_step(rules, "baab"), (1, "R2", 0))
        self.assertEqual(first_step(rules, "aaba"), (1, "R1", 0))
        self.assertEqual(first_step(rules, "aaab"), (1, "R1", 1))

    def test_then_the_earliest_rule(self):
        self.assertEqual(first_step(Rules("a", [("B", "aa", "a"), ("A", "a", "")]), "aaa"), (1, "B", 0))
        self.assertEqual(first_step(Rules("a", [("A", "a", ""), ("B", "aa", "a")]), "aaa"), (1, "A", 0))
        self.assertEqual(first_step(Rules("a", [("B", "aa", "a"), ("A", "aa", "")]), "aa"), (1, "B", 0))

    def test_the_length_of_the_result_does_not_matter(self):
        self.assertEqual(first_step(GROW, "a" + "b" * 31), (1, "R1", 0))
        self.assertEqual(first_step(GROW, "a" * 32), (1, "R1", 0))
        self.judges(False, is_last, GROW, "a" + "b" * 31)

    def test_last_words(self):
        for word in ["", "a", "ab", "aabb", "b" * 32]:
            self.assertIsNone(first_step(SORT, word))
            self.judges(True, is_last, SORT, word)
        self.judges(False, is_last, SORT, "aba")
        self.judges(True, is_last, Rules("ab", []), "ba")


class TestGoingDown(Case):

    def test_each_step_is_the_first_step(self):
        rules = Rules("ab", [("R1", "ba", "ab"), ("R2", "aa", "a"), ("R3", "bbb", "")])
        for row in itertools.product("ab", repeat=6):
            begin = "".join(row)
            word, steps = begin, []
            while first_step(rules, word) is not None:
                steps.append(first_step(rules, word))
                word = do_step(rules, word, steps[-1])
            self.assertEqual(down_way(rules, begin), (begin, tuple(steps)))
            self.assertEqual(last_word(rules, begin), word)

    def test_last_words_have_the_empty_way(self):
        for word in ["", "ab", "b" * 32]:
            self.assertEqual(down_way(SORT, word), (word, ()))
            self.assertEqual(last_word(SORT, word), word)

    def test_120_and_121_steps(self):
        word = "b" * 10 + "a" * 12
        self.assertEqual(len(down_way(SORT, word)[1]), 120)
        self.assertEqual(last_word(SORT, word), "a" * 12 + "b" * 10)
        for call in [down_way, last_word]:
            self.refuses(TooLong(), call, SORT, "b" * 11 + "a" * 11)
            self.refuses(TooLong(), call, SORT, "b" * 16 + "a" * 16)
        self.refuses(TooLong(), last_word, COUNTER, "eeef")

    def test_words_of_32_and_33_letters(self):
        self.assertEqual(last_word(GROW, "a" * 16), "b" * 32)
        self.assertEqual(len(down_way(GROW, "a" * 16)[1]), 16)
        for call in [down_way, last_word]:
            self.refuses(TooLong(), call, GROW, "a" * 16 + "b")
            self.refuses(TooLong(), call, GROW, "a" * 32)

    def test_a_long_word_on_the_way_alone(self):
        rules = Rules("abc", [("R1", "a", "bc"), ("R2", "cb", "")], weights=[3, 1, 1])
        self.assertEqual(last_word(rules, "a" + "b" * 30), "b" * 30)
        for call in [down_way, last_word]:
            self.refuses(TooLong(), call, rules, "a" + "b" * 31)

    def test_same_last(self):
        self.judges(True, same_last, SORT, "bba", "abb")
        self.judges(True, same_last, SORT, "", "")
        self.judges(False, same_last, SORT, "ba", "b")
        self.refuses(TooLong(), same_last, SORT, "b" * 11 + "a" * 11, "")
        self.refuses(TooLong(), same_last, SORT, "", "b" * 11 + "a" * 11)

    def test_equal_words_go_down_as_well(self):
        word = "b" * 11 + "a" * 11
        self.refuses(TooLong(), same_last, SORT, word, word)
        self.refuses(TooLong(), normal_way, SORT, word, word)


class TestNormalWays(Case):

    def test_normal_ways(self):
        self.assertEqual(normal_way(SORT, "bba", "bab"), ("bba", ((1, "R1", 1), (1, "R1", 0), (-1, "R1", 0))))
        self.assertEqual(normal_way(SORT, "ba", "ab"), ("ba", ((1, "R1", 0),)))
        self.assertEqual(normal_way(SORT, "ab", "ba"), ("ab", ((-1, "R1", 0),)))

    def test_they_lead_from_the_first_word_to_the_second(self):
        rules = Rules("ab", [("R1", "aba", "b"), ("R2", "bba", "abb")])
        for one, other in [("aba", "b"), ("ababa", "bba"), ("bba", "abb"), ("b", "b")]:
            way = normal_way(rules, one, other)
            self.judges(True, leads_to, rules, way, one, other)
            down = down_way(rules, one)[1]
            self.assertEqual(way[1], down + turn_way(rules, down_way(rules, other))[1])

    def test_from_a_word_to_itself(self):
        self.assertEqual(normal_way(SORT, "ba", "ba"), ("ba", ((1, "R1", 0), (-1, "R1", 0))))
        self.assertEqual(normal_way(SORT, "ab", "ab"), ("ab", ()))

    def test_unjoined(self):
        self.refuses(Unjoined("ab", "abb"), normal_way, SORT, "ba", "bba")
        self.refuses(Unjoined("", "a"), normal_way, SORT, "", "a")

    def test_60_and_60_and_60_and_61_steps(self):
        sixty = "b" * 5 + "a" * 12 + "b" * 5
        more = "b" * 5 + "a" * 11 + "ba" + "b" * 4
        self.assertEqual([len(down_way(SORT, word)[1]) for word in [sixty, more]], [60, 61])
        self.assertEqual(len(normal_way(SORT, sixty, sixty)[1]), 120)
        self.refuses(TooLong(), normal_way, SORT, sixty, more)
        self.refuses(TooLong(), normal_way, SORT, more, sixty)

    def test_unjoined_stands_between_the_two_kinds_of_too_long(self):
        sixty = "b" * 5 + "a" * 12 + "b" * 5
        more = "b" * 6 + "a" * 12 + "b" * 5
        far = "b" * 11 + "a" * 11
        self.refuses(Unjoined("a" * 12 + "b" * 10, "a" * 12 + "b" * 11), normal_way, SORT, sixty, more)
        self.refuses(TooLong(), normal_way, SORT, far, "a")
        self.refuses(TooLong(), normal_way, SORT, "a", far)


class TestLowerWords(Case):

    def reference(self, rules, word):
        """The lower words, and the lengths of all down rows of the word."""
        results = [do_step(rules, word, step) for step in steps_on(rules, word)]
        below, rows = {word}, [0] if is_last(rules, word) else []
        longest = 0
        for result in results:
            lower, others, deep = self.reference(rules, result)
            below |= lower
            rows += [1 + many for many in others]
            longest = max(longest, 1 + deep)
        return below, rows, longest

    def compared(self, rules, word):
        below, rows, longest = self.reference(rules, word)
        self.assertEqual(lower_words(rules, word), sort_words(rules.letters, rules.weights, sorted(below)))
        self.assertEqual(count_down(rules, word), len(rows))
        self.assertEqual(longest_down(rules, word), longest)
        self.judges(len([lower for lower in below if is_last(rules, lower)]) == 1, all_meet, rules, word)

    def test_against_all_down_rows(self):
        several = Rules("ab", [("R1", "ab", "a"), ("R2", "ab", "b"), ("R3", "ba", ""), ("R4", "ab", "a")])
        mixed = Rules("ba", [("R1", "a", "bbb")], weights=[1, 4])
        for rules in [SORT, several, mixed, Rules("ab", [("R1", "aba", "b")]), Rules("ab", [])]:
            for many in range(6):
                for row in itertools.product("ab", repeat=many):
                    self.compared(rules, "".join(row))

    def test_last_words(self):
        for word in ["", "ab", "b" * 32]:
            self.assertEqual(lower_words(SORT, word), [word])
            self.assertEqual((count_down(SORT, word), longest_down(SORT, word)), (1, 0))
            self.judges(True, all_meet, SORT, word)

    def test_ascending_order(self):
        self.assertEqual(lower_words(SORT, "bba"), ["abb", "bab", "bba"])
        self.assertEqual(lower_words(GROW, "aa"), ["bbbb", "abb", "bba", "aa"])
        self.assertEqual(lower_words(Rules("ba", [("R1", "ab", "ba")]), "ab"), ["ba", "ab"])

    def test_several_down_rows(self):
        twice = Rules("ab", [("R1", "b", "a"), ("R2", "b", "a")])
        self.assertEqual((count_down(twice, "bb"), longest_down(twice, "bb")), (8, 2))
        self.assertEqual(lower_words(twice, "bb"), ["aa", "ab", "ba", "bb"])
        self.judges(True, all_meet, twice, "bb")
        fork = Rules("ab", [("R1", "ab", "a"), ("R2", "ab", "b")])
        self.assertEqual(count_down(fork, "ab"), 2)
        self.judges(False, all_meet, fork, "ab")

    def test_steps_that_do_not_fit(self):
        word = "a" + "b" * 31
        self.assertEqual(lower_words(GROW, word), [word])
        self.assertEqual((count_down(GROW, word), longest_down(GROW, word)), (0, 0))
        self.judges(False, all_meet, GROW, word)
        blocked = "aa" + "b" * 29
        self.assertEqual(len(lower_words(GROW, blocked)), 3)
        self.assertEqual((count_down(GROW, blocked), longest_down(GROW, blocked)), (0, 1))
        self.judges(False, all_meet, GROW, blocked)
        self.assertEqual(count_down(GROW, "a" + "b" * 30), 1)

    def test_some_rows_end_at_a_last_word_and_some_do_not(self):
        rules = Rules("ab", [("R1", "a", "bb"), ("R2", "a", "b")], weights=[3, 1])
        self.assertEqual(lower_words(rules, "a" + "b" * 31), ["b" * 32, "a" + "b" * 31])
        self.assertEqual(count_down(rules, "a" + "b" * 31), 1)
        self.judges(True, all_meet, rules, "a" + "b" * 31)

    def test_400_and_401_words(self):
        rules = Rules("ab", [("R1", "ba", "ab"), ("R2", "a", ""), ("R3", "bb", "a")])
        fewer = Rules("ab", [("R2", "a", ""), ("R3", "bb", "a")])
        self.assertEqual(len(lower_words(fewer, "bababbaabaabaa")), 400)
        self.assertGreater(count_down(fewer, "bababbaabaabaa"), 400)
        self.assertGreater(longest_down(fewer, "bababbaabaabaa"), 10)
        self.judges(True, all_meet, fewer, "bababbaabaabaa")
        for call in [lower_words, count_down, longest_down, all_meet]:
            self.refuses(TooMany(), call, rules, "aaababbbaaa")
            self.refuses(TooMany(), call, SORT, "b" * 16 + "a" * 16)

    def test_rows_of_more_than_120_steps(self):
        self.assertEqual(len(lower_words(COUNTER, "eeef")), 125)
        self.assertEqual((count_down(COUNTER, "eeef"), longest_down(COUNTER, "eeef")), (1, 124))
        self.judges(True, all_meet, COUNTER, "eeef")

    def test_many_down_rows(self):
        rules = Rules("a", [(f"R{at}", "a", "") for at in range(12)])
        self.assertEqual(count_down(rules, "a" * 32), 12 ** 32 * math.factorial(32))
        self.assertEqual((longest_down(rules, "a" * 32), len(lower_words(rules, "a" * 32))), (32, 33))


class TestArguments(Case):

    def test_words(self):
        for call in ONE_WORD:
            self.refuses(BadWord("abx"), call, SORT, "abx")
            self.refuses(BadWord("-"), call, SORT, "-")
            self.refuses(TooLong(), call, SORT, "a" * 33)
            # These have more than 400 lower words, and need more than 120 steps.
            self.refuses(BadWord("b" * 12 + "a" * 12 + "x"), call, SORT, "b" * 12 + "a" * 12 + "x")
            self.refuses(TooLong(), call, SORT, "b" * 20 + "a" * 20)
        for call in [same_last, normal_way]:
            self.refuses(BadWord("x"), call, SORT, "x", "y")
            self.refuses(TooLong(), call, SORT, "a" * 33, "y")
            self.refuses(BadWord("y"), call, SORT, "b" * 11 + "a" * 11, "y")
            self.refuses(TooLong(), call, SORT, "b", "a" * 33)

    def test_ways_are_right_ways(self):
        way = down_way(COUNTER, "baaf")
        self.judges(True, is_on, COUNTER, way)
        self.assertEqual(way_end(COUNTER, way), "aaaf")


if __name__ == "__main__":
    unittest.main()
