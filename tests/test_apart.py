"""Points 98 to 100: apart.py."""

import itertools
import random
import unittest

from helpers import Case
from wayfill.apart import compare_classes, count_of, is_kept, is_paper, kept_rows
from wayfill.down import last_word, normal_way
from wayfill.errors import BadRow, BadWord, TooLong, TooMany
from wayfill.overlaps import is_complete
from wayfill.rules import Rules
from wayfill.ways import leads_to, turn_way
from wayfill.whole import kernel_rows

HUGE = 10 ** 18 - 1
NONE = Rules("ab", [])
SORT = Rules("ab", [("R1", "ba", "ab")])
LAST = Rules("ab", [("R1", "ba", "a"), ("R2", "ab", "a"), ("R3", "aa", "a"), ("R4", "bb", "b")])
OPEN = Rules("ab", [("R1", "aba", "b"), ("R2", "aa", "a"), ("R3", "bb", "b")])
MANY = Rules("a", [(f"R{at}", "a" * 8, "a" * (1 + at % 2)) for at in range(12)])
# A c makes 64 letters, so a word with one is too long to go down from.
GROWING = Rules("abc", [("R1", "c", "b" * 8), ("R2", "b", "a" * 8)], weights=[1, 9, 99])


class TestCounts(Case):

    def test_count_of(self):
        rules = Rules("ba", [])
        self.assertEqual(count_of(rules, [2, -3], "abb"), 1)
        self.assertEqual(count_of(rules, [2, -3], ""), 0)
        self.assertEqual(count_of(rules, [HUGE, -HUGE], "b" * 32), 32 * HUGE)

    def test_errors_of_count_of(self):
        for row in [[], [1], [1, 2, 3], [0] * 1000]:
            self.refuses(BadRow(0), count_of, SORT, row, "ab")
            self.refuses(BadRow(0), count_of, SORT, row, "?")
        self.refuses(BadWord("abc"), count_of, SORT, [1, 2], "abc")
        self.refuses(TooLong(), count_of, SORT, [1, 2], "a" * 33)

    def test_is_kept(self):
        rules = Rules("ab", [("R1", "bba", "aaab"), ("R2", "bbb", "aaaab")], weights=[1, 3])
        self.judges(True, is_kept, rules, [1, 2])
        self.judges(True, is_kept, rules, [-3, -6])
        self.judges(True, is_kept, rules, [0, 0])
        for row in [[2, 1], [1, 1], [1, -2], [0, 1], [], [1], [1, 2, 0]]:
            self.judges(False, is_kept, rules, row)
        for row in [[5, 7], [0, -1], [HUGE, -HUGE]]:
            self.judges(True, is_kept, NONE, row)
            self.judges(True, is_kept, SORT, row)
        for row in [[], [0], [0, 0, 0]]:
            self.judges(False, is_kept, NONE, row)

    def test_only_one_rule_does_not_keep_it(self):
        for at in range(3):
            rows = [("R0", "ba", "ab"), ("R1", "bbaa", "abab"), ("R2", "ba", "ab")]
            rows[at] = (f"R{at}", "ba", "a")
            self.judges(False, is_kept, Rules("ab", rows), [1, 1])
            self.judges(True, is_kept, Rules("ab", rows), [1, 0])

    def test_kept_rows(self):
        self.assertEqual(kept_rows(SORT), [[1, 0], [0, 1]])
        self.assertEqual(kept_rows(NONE), [[1, 0], [0, 1]])
        self.assertEqual(kept_rows(Rules("ab", [("R1", "bb", "aaa")], weights=[1, 2])), [[2, 3]])
        self.assertEqual(kept_rows(LAST), [])
        self.assertEqual(kept_rows(Rules("abc", [("R1", "c", "ab")], weights=[1, 1, 3])), [[-1, 1, 0], [1, 0, 1]])

    def test_kept_rows_by_the_words_of_point_98(self):
        luck = random.Random(6)
        for _ in range(200):
            letters = luck.choice(["a", "ab", "cab", "abcdef"])
            rows = []
            for at in range(luck.choice([0, 1, 2, 12])):
                left = "".join(luck.choice(letters) for _ in range(luck.randint(2, 8)))
                right = "".join(luck.choice(letters) for _ in range(luck.randint(0, len(left) - 1)))
                rows.append((f"R{at}", left, right))
            rules = Rules(letters, rows)
            taken = [[left.count(letter) - right.count(letter) for letter in letters] for _, left, right in rows]
            kept = kept_rows(rules)
            self.assertEqual(kept, kernel_rows(taken, width=len(letters)))
            self.assertTrue(all(is_kept(rules, row) for row in kept))


class TestComparing(Case):

    def test_same(self):
        for one, other in [("ba", "ab"), ("bba", "bab"), ("ab", "ba"), ("", ""), ("ab", "ab")]:
            self.assertEqual(compare_classes(SORT, one, other), ("same", normal_way(SORT, one, other)))
        # The normal way of two equal words is not the empty one, unless the word is last.
        self.assertEqual(compare_classes(SORT, "ba", "ba"), ("same", ("ba", ((1, "R1", 0), (-1, "R1", 0)))))

    def test_count(self):
        self.assertEqual(compare_classes(SORT, "ab", "aab"), ("count", [1, 0], 1, 2))
        self.assertEqual(compare_classes(SORT, "ab", "abb"), ("count", [0, 1], 1, 2))
        self.assertEqual(compare_classes(SORT, "aab", "b"), ("count", [1, 0], 2, 0))
        rules = Rules("abc", [("R1", "c", "ab")], weights=[1, 1, 3])
        self.assertEqual(compare_classes(rules, "cc", "ca"), ("count", [-1, 1, 0], 0, -1))

    def test_last(self):
        self.assertTrue(is_complete(LAST))
        self.assertEqual(compare_classes(LAST, "bb", "ab"), ("last", "b", "a"))
        self.assertEqual(compare_classes(LAST, "", "bbb"), ("last", "", "b"))
        self.assertEqual(compare_classes(NONE, "ab", "ba"), ("last", "ab", "ba"))

    def test_unknown(self):
        self.assertFalse(is_complete(OPEN))
        self.assertEqual(compare_classes(OPEN, "ab", "b"), ("unknown",))

    def test_equal_last_words_before_all_else(self):
        self.assertEqual(compare_classes(MANY, "a" * 8, "a")[0], "same")
        self.assertEqual(compare_classes(OPEN, "aba", "b"), ("same", ("aba", ((1, "R1", 0),))))

    def test_counts_before_completeness(self):
        # More than 200 overlaps raise an error only where no count differs.
        rows = [(f"R{at}", "b" * 8, "b" * 7) for at in range(12)]
        rules = Rules("ab", rows)
        self.refuses(TooMany(), is_complete, rules)
        self.assertEqual(compare_classes(rules, "ab", "b"), ("count", [1, 0], 1, 0))
        self.refuses(TooMany(), compare_classes, rules, "ab", "ba")
        self.assertEqual(compare_classes(rules, "abb", "abb"), ("same", ("abb", ())))
        # The overlap of these is open, and the counts of the words differ.
        rules = Rules("abc", [("R1", "bb", "ab"), ("R2", "bb", "ba")])
        self.assertFalse(is_complete(rules))
        self.assertEqual(compare_classes(rules, "c", "cc"), ("count", [0, 0, 1], 1, 2))
        self.assertEqual(compare_classes(rules, "bb", "bbc")[0], "count")
        self.assertEqual(compare_classes(rules, "ca", "ac"), ("unknown",))

    def test_errors_of_the_words(self):
        for wrong, error in [("c", BadWord("c")), ("a" * 33, TooLong())]:
            self.refuses(error, compare_classes, SORT, wrong, "?")
            self.refuses(error, compare_classes, SORT, "a", wrong)
        self.refuses(BadWord("?"), compare_classes, GROWING, "c" * 32, "?")

    def test_errors_of_going_down(self):
        self.refuses(TooLong(), compare_classes, GROWING, "ccccc", "a")
        self.refuses(TooLong(), compare_classes, GROWING, "a", "ccccc")

    def test_a_normal_way_of_120_and_of_121_steps(self):
        one = "b" * 8 + "a" * 8
        self.assertEqual(len(compare_classes(SORT, one, "b" * 7 + "a" * 8 + "b")[1][1]), 120)
        self.refuses(TooLong(), compare_classes, SORT, one, "b" * 7 + "a" * 7 + "ba")
        self.refuses(TooLong(), compare_classes, SORT, one, one)

    def test_an_error_while_completeness_is_tested(self):
        rules = Rules("abc", GROWING.rows + [("R3", "cc", "c")], weights=[1, 9, 99])
        self.assertEqual(kept_rows(rules), [])
        self.refuses(TooLong(), is_complete, rules)
        self.refuses(TooLong(), compare_classes, rules, "a", "aa")
        self.judges(False, is_paper, rules, "a", "aa", ("last", "a", "aa"))


class TestJudging(Case):

    def test_papers_of_comparing_are_right(self):
        words = ["".join(word) for size in range(4) for word in itertools.product("ab", repeat=size)]
        kinds = {}
        for rules in [NONE, SORT, LAST, OPEN, Rules("ab", [("R1", "bb", "aa")])]:
            for one, other in itertools.product(words, words):
                paper = compare_classes(rules, one, other)
                kinds[paper[0]] = True
                self.judges(paper[0] != "unknown", is_paper, rules, one, other, paper)
        self.assertEqual(sorted(kinds), ["count", "last", "same", "unknown"])

    def test_same(self):
        for way in [("ba", ((1, "R1", 0),)), ("ba", ((1, "R1", 0), (-1, "R1", 0), (1, "R1", 0)))]:
            self.judges(True, is_paper, SORT, "ba", "ab", ("same", way))
            self.judges(True, is_paper, SORT, "ab", "ba", ("same", turn_way(SORT, way)))
            self.judges(False, is_paper, SORT, "ab", "ba", ("same", way))
            self.judges(False, is_paper, SORT, "ba", "ba", ("same", way))
            self.judges(False, is_paper, SORT, "bba", "ab", ("same", way))
            self.judges(False, is_paper, NONE, "ba", "ab", ("same", way))
        self.judges(True, is_paper, SORT, "ba", "ba", ("same", ("ba", ())))
        self.judges(False, is_paper, SORT, "ba", "ab", ("same", ("ba", ())))
        self.judges(False, is_paper, SORT, "ba", "ab", ("same", ("ab", ())))
        self.judges(False, is_paper, SORT, "?", "?", ("same", ("?", ())))
        self.judges(False, is_paper, SORT, "a" * 33, "a" * 33, ("same", ("a" * 33, ())))
        # The words need not go down.
        self.judges(True, is_paper, GROWING, "ccccc", "ccccc", ("same", ("ccccc", ())))

    def test_count(self):
        rules = Rules("ab", [("R1", "bb", "aaa")], weights=[1, 2])
        for row in [[2, 3], [4, 6], [-2, -3], [2 * HUGE, 3 * HUGE]]:
            first, second = 2 * row[0] + row[1], row[1]
            self.judges(True, is_paper, rules, "aab", "b", ("count", row, first, second))
            for wrong in [(second, first), (first + 1, second), (first, first), (second, second), (first, second - 1)]:
                self.judges(False, is_paper, rules, "aab", "b", ("count", row) + wrong)
            self.judges(False, is_paper, rules, "b", "aab", ("count", row, first, second))
        self.judges(False, is_paper, rules, "aaa", "bb", ("count", [2, 3], 6, 6))
        self.judges(False, is_paper, rules, "aab", "b", ("count", [0, 0], 0, 0))
        for row, first, second in [([1, 1], 3, 1), ([2], 4, 0), ([2, 3, 0], 7, 3), ([], 1, 2)]:
            self.judges(False, is_paper, rules, "aab", "b", ("count", row, first, second))
        for one, other in [("aa?", "b"), ("aab", "?"), ("aab", "B"), ("a" * 33, "b")]:
            self.judges(False, is_paper, rules, one, other, ("count", [2, 3], 7, 3))
        self.judges(True, is_paper, NONE, "a" * 32, "b", ("count", [1, 0], 32, 0))
        self.judges(False, is_paper, NONE, "a" * 33, "b", ("count", [1, 0], 33, 0))
        self.judges(False, is_paper, NONE, "b", "a" * 33, ("count", [1, 0], 0, 33))
        self.judges(True, is_paper, GROWING, "ccccc", "a", ("count", [1, 8, 64], 320, 1))

    def test_last(self):
        self.judges(True, is_paper, LAST, "bb", "ab", ("last", "b", "a"))
        for last in [("a", "b"), ("b", "b"), ("a", "a"), ("bb", "ab"), ("b", ""), ("", "a"), ("?", "a")]:
            self.judges(False, is_paper, LAST, "bb", "ab", ("last",) + last)
        self.judges(False, is_paper, LAST, "aa", "ab", ("last", "a", "a"))
        self.judges(True, is_paper, NONE, "ab", "b", ("last", "ab", "b"))
        self.judges(False, is_paper, NONE, "a" * 33, "b", ("last", "a" * 33, "b"))
        self.judges(False, is_paper, NONE, "?", "b", ("last", "?", "b"))

    def test_last_of_rules_that_are_not_complete(self):
        self.judges(False, is_paper, OPEN, "a", "", ("last", "a", ""))
        self.judges(False, is_paper, MANY, "a", "", ("last", "a", ""))
        self.assertEqual((last_word(OPEN, "a"), last_word(MANY, "a")), ("a", "a"))
        one = Rules("a", [("R1", "a" * 8, "a")])
        self.assertTrue(is_complete(one))
        self.judges(True, is_paper, one, "a", "", ("last", "a", ""))

    def test_last_words_that_are_not_reached(self):
        self.assertTrue(is_complete(GROWING))
        self.judges(True, is_paper, GROWING, "b", "a", ("last", "a" * 8, "a"))
        self.judges(False, is_paper, GROWING, "ccccc", "a", ("last", "a" * 32, "a"))
        self.judges(False, is_paper, GROWING, "a", "ccccc", ("last", "a", "a" * 32))

    def test_no_other_paper(self):
        for paper in [("unknown",), ("?",), ("",), ("other", 1, 2), ("?", ("ab", ())), ("Last", "a", "b"),
                      ("COUNT", [1, 0], 1, 0)]:
            for rules in [NONE, SORT, OPEN]:
                self.judges(False, is_paper, rules, "a", "b", paper)
                self.judges(False, is_paper, rules, "a", "a", paper)

    def test_every_way_there_is_right(self):
        way = normal_way(SORT, "bba", "bab")
        self.assertTrue(leads_to(SORT, way, "bba", "bab"))
        self.judges(True, is_paper, SORT, "bba", "bab", ("same", way))


if __name__ == "__main__":
    unittest.main()
