"""Points 18 to 22: names, rules, orienting and finding weights."""

import itertools
import unittest

from helpers import Case
from wayfill.errors import BadLetters, BadName, BadNumber, BadRule, BadWeights, BadWord, Repeated, Rising
from wayfill.errors import TooLong, TooMany, Unknown
from wayfill.rules import Rules, find_weights, is_name, orient
from wayfill.words import compare_words

BAD_NAMES = ["", "1", "1R", "R" * 9, "r1", "R-1", "R 1", "R1 ", " R", "R+", "?", "R" * 5000]


def many_rules(many):
    return [(f"R{at}", "a" * (at % 8 + 1), "") for at in range(many)]


class TestNames(Case):

    def test_names(self):
        for name in ["R", "R1", "Z9", "ABCDEFGH", "A1234567", "A0", "RULE"]:
            self.judges(True, is_name, name)

    def test_other_texts(self):
        for name in BAD_NAMES:
            self.judges(False, is_name, name)


class TestRules(Case):

    def test_what_it_holds(self):
        rows = [("R2", "ba", "ab"), ("A", "aa", "")]
        rules = Rules("ab", rows, weights=[2, 3])
        self.assertEqual((rules.letters, rules.weights, rules.rows, rules.names), ("ab", [2, 3], rows, ["R2", "A"]))
        self.assertEqual((len(rules), list(rules), [row for row in rules]), (2, rows, rows))
        self.assertIsInstance(rules.rows[0], tuple)

    def test_sides_and_ranks(self):
        rules = Rules("ab", [("R2", "ba", "ab"), ("A", "aa", "")])
        self.assertEqual((rules.left_of("R2"), rules.right_of("R2"), rules.rank_of("R2")), ("ba", "ab", 0))
        self.assertEqual((rules.left_of("A"), rules.right_of("A"), rules.rank_of("A")), ("aa", "", 1))
        for name in ["R1", "", "a", "?" * 5000]:
            self.refuses(Unknown(name), rules.left_of, name)
            self.refuses(Unknown(name), rules.right_of, name)
            self.refuses(Unknown(name), rules.rank_of, name)

    def test_names_that_are_in(self):
        rules = Rules("ab", [("R2", "ba", "ab"), ("A", "aa", "")])
        self.assertIs("A" in rules, True)
        self.assertIs("R2" in rules, True)
        for name in ["R1", "", "ba", "R"]:
            self.assertIs(name in rules, False)

    def test_no_rules(self):
        rules = Rules("abc", [])
        self.assertEqual((len(rules), list(rules), rules.rows, rules.names), (0, [], [], []))
        self.assertEqual(rules.weights, [1, 1, 1])
        self.refuses(Unknown("R1"), rules.left_of, "R1")

    def test_weights_left_out_and_none(self):
        self.assertEqual(Rules("ab", []).weights, [1, 1])
        self.assertEqual(Rules("ab", [], weights=None).weights, [1, 1])
        self.refuses(BadWeights(), Rules, "ab", [], weights=[])
        self.refuses(BadWeights(), Rules, "ab", [], weights=[1])
        self.refuses(BadWeights(), Rules, "ab", [], weights=[1, 0])
        self.refuses(BadWeights(), Rules, "ab", [], weights=[1, 100])

    def test_equal_rules(self):
        rows = [("R1", "ba", "ab"), ("R2", "aa", "")]
        self.assertTrue(Rules("ab", rows) == Rules("ab", list(rows), weights=[1, 1]))
        self.assertFalse(Rules("ab", rows) != Rules("ab", rows))

    def test_different_rules(self):
        rules = Rules("ab", [("R1", "ba", "ab"), ("R2", "aa", "")])
        others = [Rules("ab", [("R2", "aa", ""), ("R1", "ba", "ab")]),
                  Rules("ab", [("R1", "ba", "ab")]),
                  Rules("ab", [("R1", "ba", "ab"), ("R3", "aa", "")]),
                  Rules("ab", [("R1", "ba", "ab"), ("R2", "aa", "")], weights=[1, 2]),
                  Rules("abc", [("R1", "ba", "ab"), ("R2", "aa", "")]),
                  Rules("ab", [("R1", "ba", "ab"), ("R2", "aaa", "")]),
                  Rules("ab", [("R1", "ba", "ab"), ("R2", "aa", "a")])]
        for other in others:
            self.assertIs(rules == other, False)
            self.assertIs(rules != other, True)
        self.assertIs(Rules("ab", []) == Rules("ba", []), False)

    def test_objects_of_other_kinds(self):
        rules = Rules("ab", [])
        for other in ["ab", [], (), None, 0, {}, ("ab", [1, 1], [])]:
            self.assertIs(rules == other, False)
            self.assertIs(other == rules, False)

    def test_properties_are_read_only(self):
        rules = Rules("ab", [("R1", "a", "")])
        for name in ["letters", "weights", "rows", "names"]:
            with self.assertRaises(AttributeError):
                setattr(rules, name, None)

    def test_the_same_sides_twice(self):
        rules = Rules("ab", [("R1", "ab", "a"), ("R2", "ab", "a"), ("R3", "ab", "b")])
        self.assertEqual(rules.names, ["R1", "R2", "R3"])

    def test_sizes(self):
        self.assertEqual(len(Rules("a", many_rules(12))), 12)
        self.refuses(TooMany(), Rules, "a", many_rules(13))
        self.refuses(TooMany(), Rules, "a", [("?", "?", "?")] * 1000)
        self.assertEqual(Rules("ab", [("R1", "b" * 8, "a" * 8)]).rows, [("R1", "b" * 8, "a" * 8)])


class TestErrorsOfRules(Case):

    def test_names(self):
        for name in BAD_NAMES:
            self.refuses(BadName(name), Rules, "ab", [(name, "?", "?")])
        self.refuses(Repeated("R1"), Rules, "ab", [("R1", "b", "a"), ("R1", "?", "?")])
        self.refuses(Repeated("R1"), Rules, "ab", [("R1", "b", "a"), ("R2", "b", "a"), ("R1", "b", "a")])

    def test_sides(self):
        self.refuses(BadWord("x"), Rules, "ab", [("R1", "x", "y")])
        self.refuses(BadWord("-"), Rules, "ab", [("R1", "a", "-")])
        self.refuses(BadWord("aaaaaaaaaac"), Rules, "ab", [("R1", "aaaaaaaaaac", "y")])
        self.refuses(TooLong(), Rules, "ab", [("R1", "a" * 9, "y")])
        self.refuses(TooLong(), Rules, "ab", [("R1", "a" * 33, "y")])
        self.refuses(BadWord("y"), Rules, "ab", [("R1", "a" * 8, "y")])
        self.refuses(TooLong(), Rules, "ab", [("R1", "", "a" * 9)])
        self.refuses(BadRule("R1"), Rules, "ab", [("R1", "", "a")])
        self.refuses(BadRule("R1"), Rules, "ab", [("R1", "", "")])
        self.refuses(BadRule("R1"), Rules, "ab", [("R1", "ab", "ab")])

    def test_a_row_is_examined_before_the_next_one(self):
        self.refuses(BadRule("R1"), Rules, "ab", [("R1", "", "a"), ("?", "?", "?")])
        self.refuses(BadWord("x"), Rules, "ab", [("R1", "b", "a"), ("R2", "b", "x"), ("?", "?", "?")])

    def test_rising_comes_after_all_arguments(self):
        self.refuses(Rising("R1"), Rules, "ab", [("R1", "a", "b")])
        self.refuses(Rising("R2"), Rules, "ab", [("R1", "b", "a"), ("R2", "a", "b"), ("R3", "a", "aa")])
        self.refuses(BadRule("R2"), Rules, "ab", [("R1", "a", "b"), ("R2", "a", "a")])
        self.refuses(BadWeights(), Rules, "ab", [("R1", "a", "b")], weights=[1])
        self.refuses(Rising("R1"), Rules, "ab", [("R1", "a", "bb")], weights=[2, 1])
        self.assertEqual(len(Rules("ab", [("R1", "a", "bb")], weights=[3, 1])), 1)
        self.assertEqual(len(Rules("ba", [("R1", "a", "b")])), 1)

    def test_the_stated_order(self):
        bad = [("?", "?", "?")]
        self.refuses(BadLetters("aa"), Rules, "aa", bad * 13, weights=[])
        self.refuses(TooMany(), Rules, "ab", bad * 13, weights=[])
        self.refuses(BadName("?"), Rules, "ab", bad, weights=[])
        self.refuses(BadRule("R1"), Rules, "ab", [("R1", "a", "a")], weights=[])
        self.refuses(BadWeights(), Rules, "ab", [("R1", "a", "b")], weights=[])


class TestOrienting(Case):

    def test_sides_are_exchanged(self):
        rules, turned = orient("ab", [("R1", "a", "b"), ("R2", "ba", "ab"), ("R3", "", "a")])
        self.assertEqual(rules, Rules("ab", [("R1", "b", "a"), ("R2", "ba", "ab"), ("R3", "a", "")]))
        self.assertEqual(turned, ["R1", "R3"])

    def test_weights_decide(self):
        rules, turned = orient("ab", [("R1", "bb", "a"), ("R2", "b", "a")], weights=[3, 1])
        self.assertEqual((rules.rows, rules.weights), ([("R1", "a", "bb"), ("R2", "a", "b")], [3, 1]))
        self.assertEqual(turned, ["R1", "R2"])
        self.assertEqual(orient("ab", [("R1", "bb", "a")], weights=None)[1], [])
        self.refuses(BadWeights(), orient, "ab", [("R1", "bb", "a")], weights=[])

    def test_no_rows(self):
        self.assertEqual(orient("ab", []), (Rules("ab", []), []))

    def test_nothing_to_exchange(self):
        rows = [("R1", "b", "a"), ("R2", "aa", "")]
        self.assertEqual(orient("ab", rows), (Rules("ab", rows), []))

    def test_equal_sides(self):
        self.refuses(BadRule("R1"), orient, "ab", [("R1", "", "")])
        self.refuses(BadRule("R1"), orient, "ab", [("R1", "ab", "ab"), ("?", "?", "?")])
        self.refuses(BadRule("R2"), orient, "ab", [("R1", "", "a"), ("R2", "a", "a")], weights=[])

    def test_the_stated_order(self):
        bad = [("?", "?", "?")]
        self.refuses(BadLetters(""), orient, "", bad * 13, weights=[])
        self.refuses(TooMany(), orient, "ab", bad * 13, weights=[])
        self.refuses(BadName("?"), orient, "ab", bad, weights=[])
        self.refuses(Repeated("R1"), orient, "ab", [("R1", "", "a"), ("R1", "?", "?")])
        self.refuses(BadWord("x"), orient, "ab", [("R1", "x", "y")])
        self.refuses(TooLong(), orient, "ab", [("R1", "a" * 9, "y")])
        self.refuses(TooLong(), orient, "ab", [("R1", "", "a" * 9)])
        self.refuses(BadWeights(), orient, "ab", [("R1", "", "a")], weights=[0, 1])

    def test_the_result_is_right_for_all_short_sides(self):
        sides = ["".join(row) for many in range(3) for row in itertools.product("ab", repeat=many)]
        for one, other in itertools.permutations(sides, 2):
            rules, turned = orient("ba", [("R1", one, other)], weights=[2, 1])
            greater = compare_words("ba", [2, 1], one, other) == 1
            self.assertEqual(rules.rows, [("R1", one, other) if greater else ("R1", other, one)])
            self.assertEqual(turned, [] if greater else ["R1"])


class TestFindingWeights(Case):

    def test_the_first_list_in_order(self):
        self.assertEqual(find_weights("ab", [("R1", "a", "bb")]), [3, 1])
        self.assertEqual(find_weights("ba", [("R1", "a", "bb")]), [1, 2])
        self.assertEqual(find_weights("ab", [("R1", "a", "b")]), [2, 1])
        self.assertEqual(find_weights("abc", [("R1", "b", "ac"), ("R2", "c", "a")]), [1, 2, 1])
        self.assertEqual(find_weights("abc", [("R1", "a", "b"), ("R2", "b", "c")]), [3, 2, 1])

    def test_lists_are_tried_in_the_stated_order(self):
        for rows in [[("R1", "ab", "c")], [("R1", "ac", "bb"), ("R2", "b", "aa")], [("R1", "cc", "aaa")], []]:
            fitting = [list(some) for some in itertools.product([1, 2, 3], repeat=3)
                       if all(compare_words("abc", list(some), left, right) == 1 for _, left, right in rows)]
            self.assertEqual(find_weights("abc", rows), fitting[0] if fitting else None)

    def test_none(self):
        self.assertIsNone(find_weights("ab", [("R1", "a", "bbb")]))
        self.assertIsNone(find_weights("ab", [("R1", "a", "b"), ("R2", "b", "a")]))
        self.assertIsNone(find_weights("a", [("R1", "a", "aa")], most=9))
        self.assertIsNone(find_weights("ab", [("R1", "a", "b")], most=1))

    def test_most(self):
        self.assertEqual(find_weights("ab", [("R1", "a", "bbb")], most=4), [4, 1])
        self.assertIsNone(find_weights("ab", [("R1", "a", "bbb")], most=3))
        self.assertEqual(find_weights("ab", [("R1", "a", "b" * 8)], most=9), [9, 1])
        self.assertEqual(find_weights("ab", [("R1", "b", "a")], most=1), [1, 1])
        for most in [0, 10, -1, 10 ** 17]:
            self.refuses(BadNumber(most), find_weights, "ab", [], most=most)

    def test_the_number_of_lists(self):
        self.assertEqual(find_weights("abcdef", []), [1] * 6)
        self.assertEqual(find_weights("abc", [], most=9), [1] * 3)
        self.assertEqual(find_weights("abcd", [], most=5), [1] * 4)
        self.assertEqual(find_weights("abcdef", [("R1", "a", "bb"), ("R2", "c", "dd"), ("R3", "e", "ff")]),
                         [3, 1, 3, 1, 3, 1])
        self.refuses(TooMany(), find_weights, "abcd", [], most=6)
        self.refuses(TooMany(), find_weights, "abcdef", [], most=4)
        self.refuses(TooMany(), find_weights, "abcdef", [("R1", "b", "a")], most=9)

    def test_no_rows(self):
        self.assertEqual(find_weights("a", []), [1])

    def test_the_stated_order(self):
        bad = [("?", "?", "?")]
        self.refuses(BadLetters("A"), find_weights, "A", bad * 13, most=0)
        self.refuses(TooMany(), find_weights, "ab", bad * 13, most=0)
        self.refuses(BadName("?"), find_weights, "ab", bad, most=0)
        self.refuses(Repeated("R1"), find_weights, "ab", [("R1", "a", "b")] * 2, most=0)
        self.refuses(TooLong(), find_weights, "ab", [("R1", "a", "b" * 9)], most=0)
        self.refuses(BadRule("R1"), find_weights, "ab", [("R1", "", "a")], most=0)
        self.refuses(BadNumber(10), find_weights, "abcdef", [("R1", "a", "b")], most=10)

    def test_no_rising(self):
        self.assertEqual(find_weights("ab", [("R1", "a", "b"), ("R2", "aa", "bb")]), [2, 1])


if __name__ == "__main__":
    unittest.main()
