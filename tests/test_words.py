"""Points 6 and 8 to 13: words.py."""

import itertools
import unittest

from helpers import Case
from wayfill import words
from wayfill.errors import BadLetters, BadText, BadWeights, BadWord, TooLong
from wayfill.words import compare_words, format_word, is_alphabet, is_word, parse_word, places_of
from wayfill.words import sort_words, word_weight

BAD_ALPHABETS = ["", "abcdefg", "aa", "abca", "aB", "a1", "a ", "-", "a" * 5000, "`", "{"]


def all_words(letters, most):
    """Every word of at most so many letters."""
    return ["".join(row) for many in range(most + 1) for row in itertools.product(letters, repeat=many)]


class TestConstants(Case):

    def test_bounds(self):
        bounds = {"LETTERS": 6, "RULES": 12, "SIDE": 8, "WEIGHT": 99, "WORD": 32, "WAY": 120, "MOVES": 400,
                  "SQUARES": 40, "OVERLAPS": 200, "WORDS": 400}
        self.assertEqual({name: getattr(words, name) for name in bounds}, bounds)


class TestAlphabets(Case):

    def test_alphabets(self):
        for letters in ["a", "z", "abcdef", "fedcba", "zamqbk", "ba"]:
            self.judges(True, is_alphabet, letters)

    def test_other_texts(self):
        for letters in BAD_ALPHABETS:
            self.judges(False, is_alphabet, letters)

    def test_an_argument_that_is_no_alphabet(self):
        for letters in BAD_ALPHABETS:
            self.refuses(BadLetters(letters), word_weight, letters, [], "?")
            self.refuses(BadLetters(letters), compare_words, letters, [], "?", "?")
            self.refuses(BadLetters(letters), sort_words, letters, [], ["?"])
            self.refuses(BadLetters(letters), parse_word, letters, "?")


class TestWords(Case):

    def test_words(self):
        for word in ["", "a", "ba", "a" * 32, "ab" * 16]:
            self.judges(True, is_word, "ab", word)
        self.judges(True, is_word, "zyxwvu", "uvwxyz")

    def test_other_texts(self):
        for word in ["c", "a" * 33, "A", "a b", "-", "abab?", "a" * 5000, "?" * 40]:
            self.judges(False, is_word, "ab", word)

    def test_a_word_over_no_alphabet(self):
        for letters in BAD_ALPHABETS:
            self.judges(False, is_word, letters, "")
            self.judges(False, is_word, letters, "a")

    def test_bad_characters_come_before_the_length(self):
        for word in ["c", "a" * 32 + "c", "c" + "a" * 40, "-", "A", " "]:
            self.refuses(BadWord(word), word_weight, "ab", [1, 1], word)
        self.refuses(TooLong(), word_weight, "ab", [1, 1], "a" * 33)
        self.refuses(TooLong(), word_weight, "ab", [1, 1], "ab" * 2500)
        self.assertEqual(word_weight("ab", [1, 1], "a" * 32), 32)

    def test_both_words_are_examined(self):
        self.refuses(BadWord("x"), compare_words, "ab", [1, 1], "x", "y")
        self.refuses(BadWord("y"), compare_words, "ab", [1, 1], "a", "y")
        self.refuses(TooLong(), compare_words, "ab", [1, 1], "a" * 33, "y")
        self.refuses(TooLong(), compare_words, "ab", [1, 1], "a", "b" * 33)

    def test_a_list_of_words_is_examined_in_order(self):
        self.refuses(BadWord("x"), sort_words, "ab", [1, 1], ["a", "x", "a" * 33, "y"])
        self.refuses(TooLong(), sort_words, "ab", [1, 1], ["a", "a" * 33, "x"])


class TestWeights(Case):

    def test_weights(self):
        self.assertEqual(word_weight("ab", [1, 99], "abba"), 200)
        self.assertEqual(word_weight("ba", [1, 99], "abb"), 101)
        self.assertEqual(word_weight("ab", [5, 7], ""), 0)
        self.assertEqual(word_weight("f", [99], "f" * 32), 3168)
        self.assertEqual(word_weight("fedcba", [1, 2, 3, 4, 5, 6], "abcdef"), 21)

    def test_other_lists(self):
        for weights in [[], [1], [1, 1, 1], [0, 1], [1, 100], [-1, 1], [1, 10 ** 17], [1] * 1000]:
            self.refuses(BadWeights(), word_weight, "ab", weights, "?")
            self.refuses(BadWeights(), compare_words, "ab", weights, "?", "?")
            self.refuses(BadWeights(), sort_words, "ab", weights, ["?"])


class TestWordOrder(Case):

    def test_the_weight_comes_first(self):
        self.assertEqual(compare_words("ab", [3, 1], "a", "bb"), 1)
        self.assertEqual(compare_words("ab", [1, 3], "aa", "b"), -1)
        self.assertEqual(compare_words("ab", [1, 1], "", "a"), -1)
        self.assertEqual(compare_words("ab", [1, 1], "b", "aa"), -1)

    def test_equal_weights_go_by_the_letter_order(self):
        self.assertEqual(compare_words("ab", [1, 1], "ba", "ab"), 1)
        self.assertEqual(compare_words("ba", [1, 1], "ba", "ab"), -1)
        self.assertEqual(compare_words("abc", [1, 1, 1], "abc", "acb"), -1)

    def test_equal_weights_of_different_lengths(self):
        self.assertEqual(compare_words("ab", [2, 1], "a", "bb"), -1)
        self.assertEqual(compare_words("ba", [1, 2], "a", "bb"), 1)
        self.assertEqual(compare_words("ab", [2, 1], "ba", "bbb"), -1)

    def test_equal_words(self):
        for word in ["", "a", "ab" * 16]:
            self.assertEqual(compare_words("ab", [2, 1], word, word), 0)

    def test_the_order_is_as_the_document_says(self):
        for letters, weights in [("ab", [1, 1]), ("ba", [2, 1]), ("ab", [2, 1])]:
            some = all_words(letters, 4)
            for one, other in itertools.product(some, some):
                expected = self.ordered(letters, weights, one, other)
                self.assertEqual(compare_words(letters, weights, one, other), expected)

    def ordered(self, letters, weights, one, other):
        weight = dict(zip(letters, weights))
        heavy = sum(weight[letter] for letter in one) - sum(weight[letter] for letter in other)
        if heavy != 0:
            return 1 if heavy > 0 else -1
        for mine, others in zip(one, other):
            if mine != others:
                return 1 if letters.index(mine) > letters.index(others) else -1
        return 0

    def test_sorting(self):
        self.assertEqual(sort_words("ab", [3, 1], ["a", "bb", "", "b", "ab"]), ["", "b", "bb", "a", "ab"])
        self.assertEqual(sort_words("ba", [1, 1], ["a", "b"]), ["b", "a"])
        self.assertEqual(sort_words("ab", [1, 1], []), [])

    def test_equal_words_stay_as_often_as_they_are_there(self):
        self.assertEqual(sort_words("ab", [1, 1], ["b", "a", "b", "", "a", ""]), ["", "", "a", "a", "b", "b"])

    def test_a_thousand_words(self):
        some = (all_words("ab", 8) * 2)[:1000]
        ordered = sort_words("ab", [2, 1], some)
        self.assertEqual(sorted(ordered), sorted(some))
        for one, other in zip(ordered, ordered[1:]):
            self.assertLessEqual(compare_words("ab", [2, 1], one, other), 0)


class TestPlaces(Case):

    def test_places(self):
        self.assertEqual(places_of("ab", "abcab"), [0, 3])
        self.assertEqual(places_of("b", "aaab"), [3])
        self.assertEqual(places_of("c", "ab"), [])

    def test_overlapping_places(self):
        self.assertEqual(places_of("aa", "aaaa"), [0, 1, 2])
        self.assertEqual(places_of("aba", "ababa"), [0, 2])

    def test_the_empty_part(self):
        self.assertEqual(places_of("", "ab"), [0, 1, 2])
        self.assertEqual(places_of("", ""), [0])

    def test_a_part_as_long_as_the_word_or_longer(self):
        self.assertEqual(places_of("ab", "ab"), [0])
        self.assertEqual(places_of("ab", "a"), [])
        self.assertEqual(places_of("a", ""), [])
        self.assertEqual(places_of("aaa", "aa"), [])

    def test_nothing_is_examined(self):
        self.assertEqual(places_of("? ", "? A? "), [0, 3])
        self.assertEqual(places_of("a", "a" * 5000), list(range(5000)))


class TestWrittenForm(Case):

    def test_format(self):
        self.assertEqual(format_word(""), "-")
        self.assertEqual(format_word("abc"), "abc")
        self.assertEqual(format_word("a" * 33), "a" * 33)

    def test_parse(self):
        self.assertEqual(parse_word("ab", "-"), "")
        for word in ["a", "ab", "b" * 32]:
            self.assertEqual(parse_word("ab", word), word)

    def test_wrong_texts(self):
        for text in ["", "--", "-a", "a-", "c", "a ", " ", "A", "a" * 33, "a" * 32 + "c", "a" * 5000]:
            self.refuses(BadText(1), parse_word, "ab", text)

    def test_there_and_back(self):
        for word in all_words("ab", 3):
            self.assertEqual(parse_word("ab", format_word(word)), word)


if __name__ == "__main__":
    unittest.main()
