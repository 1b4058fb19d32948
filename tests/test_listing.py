"""Points 94 to 97: listing.py."""

import itertools
import random
import unittest

from helpers import Case
from wayfill.down import is_last, last_word
from wayfill.errors import BadNumber, BadTable, BadWord, Open, TooLong, TooMany
from wayfill.listing import class_number, class_table, count_last, is_class_table, list_last, multiply_table, walk_table
from wayfill.overlaps import is_complete, open_overlaps
from wayfill.rules import Rules
from wayfill.words import word_weight

HUGE = 10 ** 18 - 1
# Under these there are finitely many last words, of which the longest one has 45 letters.
LEFTS = ["aaaaaaaa", "bbbbbbbb", "bbbbabbb", "aaabaaaa", "bbabbabb", "bbbabbba", "ababb", "baaabaaa", "aabb",
         "aabaabaa", "ababaa", "babababa"]
LONG = Rules("ab", [(f"R{at}", left, "") for at, left in enumerate(LEFTS)])
# From each number of an order of letters one step up the 64 letters of an f take more than 120 steps to go.
DEEP = Rules("abcdef", [("F", "f", "e" * 8), ("E", "e", "d" * 8), ("D", "d", "c"), ("C", "c", "b"), ("B", "b", "a"),
                        ("A", "a", "")], weights=[1, 1, 1, 1, 12, 99])
THREE = Rules("a", [("R1", "aaa", "")])
DIHEDRAL = Rules("ab", [("R1", "aaa", ""), ("R2", "bb", ""), ("R3", "aab", "ba"), ("R4", "baa", "ab"),
                        ("R5", "aba", "b"), ("R6", "bab", "aa")])


def random_rules(luck):
    """Rules that need not be complete."""
    letters, size = luck.choice([("a", 8), ("ab", 8), ("ba", 3), ("ba", 2), ("bac", 2), ("bac", 3)])
    weights = [luck.choice([1, 1, 2, 3, 7]) for _ in letters]
    sizes = [luck.randint(1, size) for _ in range(luck.choice([0, 2, 5, 12]))]
    lefts = ["".join(luck.choice(letters) for _ in range(size)) for size in sizes]
    return Rules(letters, [(f"R{at}", left, "") for at, left in enumerate(lefts)], weights=weights)


def all_last(rules, most):
    """All last words of at most so many letters, found among all words."""
    words = ["".join(word) for size in range(most + 1) for word in itertools.product(rules.letters, repeat=size)]
    lefts = [left for name, left, right in rules]
    return [word for word in words if not any(left in word for left in lefts)]


def ascending(rules, words):
    """The words in the word order."""
    return sorted(words, key=lambda word: (word_weight(rules.letters, rules.weights, word),
                                           [rules.letters.index(letter) for letter in word]))


def number_by_windows(rules):
    """The number of all last words; an endless one shows the same window of letters twice."""
    size = max([len(left) for name, left, right in rules], default=1) - 1
    known = {}

    def number_from(window):
        """The number of last words that begin with the window, or None for endless ones."""
        if window not in known:
            known[window] = None
            parts = [number_from((window + letter)[1:] if size else "") for letter in rules.letters
                     if is_last(rules, window + letter)]
            if None in parts:
                return None
            known[window] = 1 + sum(parts)
        return known[window]

    short = [word for word in all_last(rules, size) if len(word) < size]
    numbers = [number_from(word) for word in all_last(rules, size) if len(word) == size]
    return None if None in numbers else len(short) + sum(numbers)


class TestListing(Case):

    def test_the_first_words(self):
        rules = Rules("ab", [("R1", "ba", "ab")])
        self.assertEqual(list_last(rules, many=7), ["", "a", "b", "aa", "ab", "bb", "aaa"])
        self.assertEqual(list_last(Rules("ba", []), many=4), ["", "b", "a", "bb"])
        self.assertEqual(list_last(THREE, many=9), ["", "a", "aa"])

    def test_longer_words_that_are_lesser(self):
        rules = Rules("ab", [("R1", "ab", "")], weights=[7, 2])
        self.assertEqual(list_last(rules, many=9), ["", "b", "bb", "bbb", "a", "bbbb", "ba", "bbbbb", "bba"])

    def test_many(self):
        for rules in [Rules("ab", []), Rules("ab", [], weights=[1, 99]), Rules("abcdef", [])]:
            all_words = list_last(rules, many=400)
            self.assertEqual(len(all_words), 400)
            for many in [0, 1, 2, 5, 399]:
                self.assertEqual(list_last(rules, many=many), all_words[:many])
        for many in [401, -1, HUGE, -HUGE]:
            self.refuses(BadNumber(many), list_last, THREE, many=many)
        for many in [0, 1, 2, 3, 4, 400]:
            self.assertEqual(list_last(THREE, many=many), ["", "a", "aa"][:many])

    def test_no_rules(self):
        rules = Rules("ab", [])
        self.assertEqual(list_last(rules, many=400), ascending(rules, all_last(rules, 8))[:400])

    def test_words_of_32_letters_and_none_longer(self):
        for weights in [[1, 1], [1, 99], [99, 99], [99, 1]]:
            rules = Rules("ab", [("R1", "a" if weights == [99, 1] else "b", "")], weights=weights)
            letter = "b" if weights == [99, 1] else "a"
            self.assertEqual(list_last(rules, many=400), [letter * size for size in range(33)])
        self.assertEqual(list_last(Rules("f", [], weights=[99]), many=400)[-1], "f" * 32)
        rules = Rules("ab", [("R1", "ba", ""), ("R2", "bb", "")], weights=[1, 99])
        self.assertEqual(list_last(rules, many=400),
                         ["a" * size for size in range(33)] + ["a" * size + "b" for size in range(32)])

    def test_the_empty_word_alone(self):
        rules = Rules("abc", [("A", "a", ""), ("B", "b", "a"), ("C", "c", "")])
        for many, words in [(0, []), (1, [""]), (400, [""])]:
            self.assertEqual(list_last(rules, many=many), words)
        self.assertEqual(count_last(rules, most=3), [1, 0, 0, 0])
        self.assertEqual(class_number(rules), 1)
        self.assertEqual(class_table(rules), ([""], [[0, 0, 0]]))

    def test_random_rules(self):
        luck = random.Random(9)
        for _ in range(100):
            rules = random_rules(luck)
            # All words of less weight than this have at most 7 letters.
            weight = 8 * min(rules.weights)
            words = [word for word in all_last(rules, 7) if word_weight(rules.letters, rules.weights, word) < weight]
            words = ascending(rules, words)[:400]
            self.assertEqual(list_last(rules, many=400)[:len(words)], words)
            longest = list_last(rules, many=400)
            self.assertEqual(longest, ascending(rules, longest))
            self.assertTrue(all(is_last(rules, word) for word in longest))


class TestCounting(Case):

    def test_by_letters(self):
        self.assertEqual(count_last(Rules("ab", []), most=4), [1, 2, 4, 8, 16])
        self.assertEqual(count_last(THREE, most=4), [1, 1, 1, 0, 0])
        self.assertEqual(count_last(Rules("abcdef", []), most=32)[-1], 6 ** 32)
        self.assertEqual(count_last(Rules("ab", [("R1", "bb", "")]), most=32)[-1], 5702887)

    def test_most(self):
        for most in [0, 1, 31, 32]:
            self.assertEqual(count_last(THREE, most=most), ([1, 1, 1] + [0] * 30)[:most + 1])
        for most in [-1, 33, HUGE, -HUGE]:
            self.refuses(BadNumber(most), count_last, THREE, most=most)

    def test_infinitely_many(self):
        for rules in [Rules("a", []), Rules("ab", [("R1", "ba", "ab")]), Rules("ab", LONG.rows[:-1]),
                      Rules("ab", [("R1", "bb", ""), ("R2", "aaa", "")])]:
            self.assertIsNone(class_number(rules))

    def test_more_than_32_letters(self):
        self.assertEqual(number_by_windows(LONG), class_number(LONG))
        self.assertGreater(count_last(LONG, most=32)[-1], 0)
        self.assertGreater(class_number(LONG), sum(count_last(LONG, most=32)))
        self.assertEqual(max(len(word) for word in list_last(LONG, many=400)), 9)

    def test_large_numbers(self):
        pairs = [("ba", ""), ("ca", ""), ("cb", ""), ("da", ""), ("db", ""), ("dc", "")]
        powers = [(letter * 8, "") for letter in "abcd"]
        rules = Rules("abcd", [(f"R{at}", left, right) for at, (left, right) in enumerate(pairs + powers)])
        self.assertEqual(class_number(rules), 4096)
        self.assertEqual(count_last(rules, most=32)[27:30], [4, 1, 0])

    def test_random_rules(self):
        luck = random.Random(10)
        finite = 0
        for _ in range(150):
            rules = random_rules(luck)
            words = all_last(rules, 6)
            counts = [len([word for word in words if len(word) == size]) for size in range(7)]
            self.assertEqual(count_last(rules, most=6), counts)
            self.assertEqual(class_number(rules), number_by_windows(rules))
            finite += class_number(rules) is not None
        self.assertTrue(20 < finite < 130, finite)

    def test_the_same_counts_as_listed(self):
        for rules in [THREE, DIHEDRAL, Rules("ab", [("R1", "ba", "ab"), ("R2", "aaaa", ""), ("R3", "bbbbb", "")])]:
            words = list_last(rules, many=400)
            self.assertEqual(class_number(rules), len(words))
            self.assertEqual(count_last(rules, most=32),
                             [len([word for word in words if len(word) == size]) for size in range(33)])


class TestClassTable(Case):

    def test_cyclic(self):
        self.assertEqual(class_table(THREE), (["", "a", "aa"], [[1], [2], [0]]))

    def test_by_the_words_of_point_97(self):
        samples = [THREE, DIHEDRAL, Rules("ab", [("R1", "a", ""), ("R2", "bbb", "b")]),
                   Rules("ab", [("R1", "aa", "a"), ("R2", "bb", "b"), ("R3", "aba", "ab"), ("R4", "bab", "ab"),
                                ("R5", "ba", "ab")], weights=[2, 3])]
        for rules in samples:
            self.assertTrue(is_complete(rules))
            words = list_last(rules, many=400)
            rows = [[words.index(last_word(rules, word + letter)) for letter in rules.letters] for word in words]
            self.assertEqual(class_table(rules), (words, rows))
            self.judges(True, is_class_table, rules, class_table(rules))
        self.assertEqual(len(class_table(DIHEDRAL)[0]), 6)

    def test_24_and_25_classes(self):
        rules = Rules("ab", [("R1", "ba", "ab"), ("R2", "aaaa", ""), ("R3", "bbbbbb", "")])
        self.assertEqual(len(class_table(rules)[0]), 24)
        self.judges(True, is_class_table, rules, class_table(rules))
        rules = Rules("ab", [("R1", "ba", "ab"), ("R2", "aaaaa", ""), ("R3", "bbbbb", "")])
        self.assertEqual(class_number(rules), 25)
        self.refuses(TooMany(), class_table, rules)
        self.refuses(TooMany(), class_table, Rules("a", []))

    def test_more_than_200_overlaps_first(self):
        rules = Rules("a", [(f"R{at}", "a" * 8, "a" * (at % 2)) for at in range(12)])
        self.refuses(TooMany(), class_table, rules)

    def test_open_overlaps_before_the_class_number(self):
        for rows in [[("R1", "aba", "b"), ("R2", "aab", "")], [("R1", "ab", "a"), ("R2", "ab", "b")]]:
            rules = Rules("ab", rows)
            self.assertIsNone(class_number(rules))
            word, one, other = open_overlaps(rules)[0]
            self.refuses(Open(word, one, other), class_table, rules)

    def test_errors_of_going_down_while_overlaps_are_examined(self):
        rules = Rules("abcdef", DEEP.rows + [("G", "ef", ""), ("H", "ff", "")], weights=DEEP.weights)
        self.refuses(TooLong(), class_table, rules)

    def test_the_class_number_before_the_errors_of_going_down(self):
        self.assertEqual(class_number(DEEP), 1)
        self.assertTrue(is_complete(DEEP))
        self.refuses(TooLong(), class_table, DEEP)
        rules = Rules("abcdef", DEEP.rows[:-1], weights=DEEP.weights)
        self.refuses(TooMany(), class_table, rules)
        self.assertEqual(class_table(Rules("abcdef", DEEP.rows[1:] + [("F", "f", "e")], weights=[1, 1, 1, 1, 12, 99])),
                         ([""], [[0] * 6]))


TABLE = (["", "a", "b", "aa", "ab", "ba"], [[1, 2], [3, 4], [5, 0], [0, 5], [2, 1], [4, 3]])


class TestJudging(Case):

    def refused(self, rules, table):
        self.judges(False, is_class_table, rules, table)
        self.refuses(BadTable(), walk_table, rules, table, 0, "")
        self.refuses(BadTable(), multiply_table, rules, table)

    def changed(self, at, word=None, row=None):
        words, rows = list(TABLE[0]), [list(row) for row in TABLE[1]]
        if word is not None:
            words[at] = word
        if row is not None:
            rows[at] = row
        return words, rows

    def test_the_table_of_rules(self):
        self.assertEqual(class_table(DIHEDRAL), TABLE)
        self.judges(True, is_class_table, DIHEDRAL, TABLE)

    def test_words_that_are_not_last(self):
        for at, word in [(1, "aaaa"), (5, "aab"), (3, "bab" + "bb" * 14), (2, "bbb"), (4, "baa")]:
            self.judges(True, is_class_table, DIHEDRAL, self.changed(at, word=word))
        # A table may tell some classes apart, and need not tell all.
        self.judges(True, is_class_table, DIHEDRAL, ([""], [[0, 0]]))
        self.judges(True, is_class_table, DIHEDRAL, (["", "b"], [[0, 1], [1, 0]]))
        self.judges(True, is_class_table, Rules("ab", []), (["", "ba"], [[0, 1], [1, 1]]))

    def test_words(self):
        self.refused(DIHEDRAL, ([], []))
        self.refused(DIHEDRAL, (["a"], [[0, 0]]))
        self.refused(DIHEDRAL, (["b", ""], [[1, 0], [0, 1]]))
        self.refused(DIHEDRAL, (["", ""], [[0, 0], [0, 0]]))
        self.refused(DIHEDRAL, (["", "a", "b", "aa", "ab", "ab"], TABLE[1]))
        self.refused(Rules("ab", []), (["", "b", "b"], [[0, 1], [1, 1], [2, 2]]))
        for at, word in [(0, "aaa"), (1, "c"), (1, "A"), (1, "?"), (1, "a c"), (2, "a"), (3, "ab"),
                         (5, "ba" + "b" * 32)]:
            self.refused(DIHEDRAL, self.changed(at, word=word))
        self.judges(True, is_class_table, THREE, (["", "a" * 31, "a" * 32], [[1], [2], [0]]))
        self.refused(THREE, (["", "a" * 34, "a" * 32], [[1], [2], [0]]))
        self.refused(THREE, (["", "a" * 31, "a" * 35], [[1], [2], [0]]))

    def test_24_and_25_words(self):
        rules = Rules("a", [])
        for many in [1, 24, 25]:
            words = ["a" * size for size in range(many)]
            table = words, [[(at + 1) % many] for at in range(many)]
            if many == 25:
                self.refused(rules, table)
            else:
                self.judges(True, is_class_table, rules, table)

    def test_rows(self):
        words, rows = TABLE
        self.refused(DIHEDRAL, (words, rows[:5]))
        self.refused(DIHEDRAL, (words, rows + [[0, 0]]))
        self.refused(DIHEDRAL, (words, []))
        self.refused(DIHEDRAL, (words[:5], rows))
        self.refused(THREE, (["", "a", "aa"], [[1], [2], [0, 0]]))
        self.refused(THREE, (["", "a", "aa"], [[1, 1], [2], [0]]))
        self.refused(THREE, (["", "a", "aa"], [[1], [], [0]]))

    def test_numbers_out_of_range(self):
        for at in range(6):
            for number in [-1, 6, -6, HUGE, -HUGE]:
                self.refused(DIHEDRAL, self.changed(at, row=[TABLE[1][at][0], number]))
                self.refused(DIHEDRAL, self.changed(at, row=[number, TABLE[1][at][1]]))
        self.refused(Rules("a", []), (["", "a"], [[1], [-1]]))
        self.refused(Rules("a", []), (["", "a"], [[1], [2]]))
        # These would walk right if the numbers counted from the end.
        self.refused(THREE, (["", "a", "aa"], [[-2], [2], [0]]))
        self.refused(THREE, (["", "a", "aa"], [[1], [-1], [0]]))

    def test_each_other_number(self):
        for at, place, number in itertools.product(range(6), range(2), range(6)):
            table = self.changed(at)
            table[1][at][place] = number
            if number == TABLE[1][at][place]:
                self.judges(True, is_class_table, DIHEDRAL, table)
            else:
                self.refused(DIHEDRAL, table)

    def test_a_word_that_does_not_lead_to_its_index(self):
        rules = Rules("ab", [])
        rows = [[1, 2], [0, 0], [0, 0]]
        self.judges(True, is_class_table, rules, (["", "a", "b"], rows))
        self.refused(rules, (["", "b", "a"], rows))
        self.refused(rules, (["", "a", "bb"], rows))
        self.refused(rules, (["", "aa", "b"], rows))

    def test_sides_that_lead_apart_elsewhere_than_at_0(self):
        rows = [[1], [2], [3], [3]]
        self.judges(True, is_class_table, Rules("a", [("R1", "aaaa", "aaa")]), (["", "a", "aa", "aaa"], rows))
        self.refused(Rules("a", [("R1", "aaa", "aa")]), (["", "a", "aa", "aaa"], rows))
        words, rows = ["", "a", "b"], [[1, 2], [1, 1], [2, 1]]
        # From 0 and from 1 both sides of the rule lead to the same index, from 2 they do not.
        self.judges(True, is_class_table, Rules("ab", []), (words, rows))
        self.refused(Rules("ab", [("R1", "ab", "a")]), (["", "a", "b"], [[1, 2], [1, 1], [2, 1]]))
        self.judges(True, is_class_table, Rules("ab", [("R1", "ab", "a")]), (words, [[1, 2], [1, 1], [2, 2]]))


class TestWalking(Case):

    def test_walking(self):
        self.assertEqual(walk_table(DIHEDRAL, TABLE, 0, ""), 0)
        self.assertEqual(walk_table(DIHEDRAL, TABLE, 4, "ba"), 3)
        self.assertEqual(walk_table(THREE, class_table(THREE), 1, "a" * 32), 0)
        for start, word in itertools.product(range(6), ["", "ab", "ba", "abab", "bbaab", "ab" * 16]):
            reached = TABLE[0].index(last_word(DIHEDRAL, (TABLE[0][start] + word)[:32]))
            if len(TABLE[0][start] + word) <= 32:
                self.assertEqual(walk_table(DIHEDRAL, TABLE, start, word), reached)

    def test_errors(self):
        for start in [-1, 6, HUGE, -HUGE]:
            self.refuses(BadNumber(start), walk_table, DIHEDRAL, TABLE, start, "a")
            self.refuses(BadNumber(start), walk_table, DIHEDRAL, TABLE, start, "?")
            self.refuses(BadTable(), walk_table, DIHEDRAL, (TABLE[0], []), start, "a")
        self.refuses(BadWord("c"), walk_table, DIHEDRAL, TABLE, 5, "c")
        self.refuses(TooLong(), walk_table, DIHEDRAL, TABLE, 5, "a" * 33)

    def test_multiplying(self):
        self.assertEqual(multiply_table(THREE, class_table(THREE)), [[0, 1, 2], [1, 2, 0], [2, 0, 1]])
        words = TABLE[0]
        self.assertEqual(multiply_table(DIHEDRAL, TABLE),
                         [[words.index(last_word(DIHEDRAL, one + other)) for other in words] for one in words])
        self.assertEqual(multiply_table(Rules("ab", []), (["", "ba"], [[0, 1], [1, 1]])), [[0, 1], [1, 1]])


if __name__ == "__main__":
    unittest.main()
