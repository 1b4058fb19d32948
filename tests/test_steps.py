"""Points 25 to 29: steps.py."""

import itertools
import unittest

from helpers import Case
from wayfill.errors import BadStep, BadWord, TooLong, Unknown
from wayfill.rules import Rules
from wayfill.steps import do_step, fits, shift_step, step_input, step_output, steps_at, steps_back, steps_on, turn_step

RULES = Rules("ab", [("R1", "ba", "ab"), ("E", "aa", ""), ("G", "b", "aaa")], weights=[1, 9])
HUGE = 10 ** 18 - 1


class TestInputAndOutput(Case):

    def test_steps_on_and_back(self):
        self.assertEqual((step_input(RULES, (1, "R1", 0)), step_output(RULES, (1, "R1", 0))), ("ba", "ab"))
        self.assertEqual((step_input(RULES, (-1, "R1", 5)), step_output(RULES, (-1, "R1", 5))), ("ab", "ba"))
        self.assertEqual((step_input(RULES, (1, "E", 0)), step_output(RULES, (1, "E", 0))), ("aa", ""))
        self.assertEqual((step_input(RULES, (-1, "E", 0)), step_output(RULES, (-1, "E", 0))), ("", "aa"))

    def test_every_sign_but_1_counts_as_minus_1(self):
        for sign in [0, 2, 5, -2, -5, HUGE, -HUGE]:
            self.assertEqual(step_input(RULES, (sign, "G", 0)), "aaa")
            self.assertEqual(step_output(RULES, (sign, "G", 0)), "b")

    def test_nothing_else_is_examined(self):
        for place in [-1, 99, HUGE, -HUGE]:
            self.assertEqual(step_input(RULES, (1, "G", place)), "b")
            self.assertEqual(step_output(RULES, (1, "G", place)), "aaa")

    def test_unknown_names(self):
        for name in ["R9", "", "r1", "?" * 5000]:
            for sign in [1, -1, 5]:
                self.refuses(Unknown(name), step_input, RULES, (sign, name, 0))
                self.refuses(Unknown(name), step_output, RULES, (sign, name, 0))


class TestDoing(Case):

    def done(self, word, step, result):
        self.assertEqual(do_step(RULES, word, step), result)
        self.judges(True, fits, RULES, word, step)

    def not_done(self, word, step, error):
        self.refuses(error, do_step, RULES, word, step)
        self.judges(False, fits, RULES, word, step)

    def test_steps_on(self):
        self.done("bab", (1, "R1", 0), "abb")
        self.done("aba", (1, "R1", 1), "aab")
        self.done("aab", (1, "E", 0), "b")
        self.done("aa", (1, "E", 0), "")
        self.done("aba", (1, "G", 1), "aaaaa")

    def test_steps_back(self):
        self.done("abb", (-1, "R1", 0), "bab")
        self.done("ab", (-1, "E", 0), "aaab")
        self.done("ab", (-1, "E", 1), "aaab")
        self.done("bb", (-1, "E", 1), "baab")
        self.done("bb", (-1, "E", 2), "bbaa")
        self.done("", (-1, "E", 0), "aa")
        self.done("aaaa", (-1, "G", 1), "ab")

    def test_places(self):
        self.not_done("aab", (1, "E", 1), BadStep(0))
        self.not_done("aaa", (1, "E", 2), BadStep(0))
        self.not_done("aaa", (1, "E", 3), BadStep(0))
        self.not_done("aaa", (1, "E", -1), BadStep(0))
        self.not_done("bb", (-1, "E", 3), BadStep(0))
        self.not_done("bb", (-1, "E", -1), BadStep(0))
        self.not_done("", (-1, "E", 1), BadStep(0))
        self.not_done("", (1, "E", 0), BadStep(0))
        for place in [HUGE, -HUGE]:
            self.not_done("bb", (-1, "E", place), BadStep(0))
            self.not_done("aa", (1, "E", place), BadStep(0))

    def test_signs(self):
        for sign in [0, 2, 5, -2, -5, HUGE, -HUGE]:
            self.not_done("ab", (sign, "R1", 0), BadStep(0))
            self.not_done("ba", (sign, "R1", 0), BadStep(0))
            self.not_done("bb", (sign, "E", 0), BadStep(0))

    def test_unknown_names_come_first(self):
        for step in [(1, "R9", 0), (5, "R9", 0), (1, "", -1), (-1, "e", HUGE)]:
            self.not_done("aa", step, Unknown(step[1]))

    def test_the_longest_result(self):
        self.done("a" * 30, (-1, "E", 30), "a" * 32)
        self.not_done("a" * 31, (-1, "E", 31), TooLong())
        self.done("b" + "a" * 29, (1, "G", 0), "a" * 32)
        self.not_done("b" + "a" * 30, (1, "G", 0), TooLong())
        self.not_done("a" * 31, (-1, "E", 32), BadStep(0))

    def test_the_errors_of_the_word_come_first(self):
        self.not_done("abc", (1, "R9", 0), BadWord("abc"))
        self.not_done("a" * 33, (1, "R9", 0), TooLong())
        self.not_done("a" * 33, (1, "E", 0), TooLong())
        self.not_done("a" * 33 + "c", (1, "E", 0), BadWord("a" * 33 + "c"))
        self.not_done("-", (-1, "E", 0), BadWord("-"))

    def test_a_step_and_the_step_turned_about(self):
        for word in ["bab", "aab", "abab", "aaab"]:
            for step in steps_at(RULES, word):
                self.assertEqual(do_step(RULES, do_step(RULES, word, step), turn_step(step)), word)


class TestTurningAndShifting(Case):

    def test_turning(self):
        self.assertEqual(turn_step((1, "R1", 3)), (-1, "R1", 3))
        self.assertEqual(turn_step((-1, "R1", 3)), (1, "R1", 3))
        self.assertEqual(turn_step((5, "?", -HUGE)), (-5, "?", -HUGE))

    def test_shifting(self):
        self.assertEqual(shift_step((1, "R1", 3), 4), (1, "R1", 7))
        self.assertEqual(shift_step((-1, "R1", 3), -4), (-1, "R1", -1))
        self.assertEqual(shift_step((5, "?", 0), HUGE), (5, "?", HUGE))
        self.assertEqual(shift_step((1, "R1", 2), 0), (1, "R1", 2))


class TestStepOrder(Case):

    def expected(self, rules, word, sign):
        """All steps of this sign that fit, by place and then by the rule order."""
        names = rules.names
        return [(sign, name, place) for place in range(40) for name in names if fits(rules, word, (sign, name, place))]

    def test_by_place_and_then_by_the_rule_order(self):
        rules = Rules("ab", [("Z", "aa", "b"), ("A", "aa", "a"), ("M", "a", ""), ("B", "ba", "b")], weights=[2, 1])
        self.assertEqual(steps_on(rules, "aaba"), [(1, "Z", 0), (1, "A", 0), (1, "M", 0), (1, "M", 1), (1, "B", 2),
                                                   (1, "M", 3)])
        self.assertEqual(steps_back(rules, "ab"), [(-1, "A", 0), (-1, "M", 0), (-1, "Z", 1), (-1, "M", 1),
                                                   (-1, "B", 1), (-1, "M", 2)])
        self.assertEqual(steps_at(rules, "ab"), [(1, "M", 0)] + steps_back(rules, "ab"))

    def test_all_short_words(self):
        for many in range(5):
            for row in itertools.product("ab", repeat=many):
                word = "".join(row)
                on = self.expected(RULES, word, 1)
                back = self.expected(RULES, word, -1)
                self.assertEqual(steps_on(RULES, word), on)
                self.assertEqual(steps_back(RULES, word), back)
                self.assertEqual(steps_at(RULES, word), on + back)

    def test_equal_left_sides(self):
        rules = Rules("a", [("B", "aa", "a"), ("A", "aa", ""), ("C", "aa", "a")])
        self.assertEqual(steps_on(rules, "aaa"), [(1, "B", 0), (1, "A", 0), (1, "C", 0),
                                                  (1, "B", 1), (1, "A", 1), (1, "C", 1)])

    def test_empty_right_sides_at_every_place(self):
        rules = Rules("ab", [("E", "aa", "")])
        self.assertEqual(steps_back(rules, "bab"), [(-1, "E", place) for place in range(4)])
        self.assertEqual(steps_back(rules, ""), [(-1, "E", 0)])

    def test_results_of_32_and_of_33_letters(self):
        rules = Rules("ab", [("E", "aa", ""), ("F", "b", "a"), ("G", "bb", "a")])
        self.assertEqual(len(steps_back(rules, "b" * 30)), 31)
        self.assertEqual(steps_back(rules, "b" * 31), [])
        self.assertEqual(steps_back(rules, "b" * 31 + "a"), [(-1, "F", 31)])
        self.assertEqual(steps_back(rules, "b" * 30 + "a"), [(-1, "F", 30), (-1, "G", 30)])
        rising = Rules("ab", [("R1", "a", "bb"), ("R2", "a", "b")], weights=[3, 1])
        self.assertEqual(steps_on(rising, "a" + "b" * 30), [(1, "R1", 0), (1, "R2", 0)])
        self.assertEqual(steps_on(rising, "a" + "b" * 31), [(1, "R2", 0)])

    def test_without_rules(self):
        self.assertEqual(steps_at(Rules("ab", []), "ab"), [])

    def test_the_errors_of_the_word(self):
        for call in [steps_on, steps_back, steps_at]:
            self.refuses(BadWord("abc"), call, RULES, "abc")
            self.refuses(BadWord("-"), call, RULES, "-")
            self.refuses(TooLong(), call, RULES, "a" * 33)
            call(RULES, "ab" * 16)


if __name__ == "__main__":
    unittest.main()
