"""Points 101 and 102: sums.py."""

import inspect
import itertools
import random
import unittest

from helpers import Case, spoil
from wayfill.down import last_word
from wayfill.errors import BadSum, BadWord, TooLong, TooMany
from wayfill.listing import list_last
from wayfill.rules import Rules
from wayfill.sums import Sum
from wayfill.words import sort_words

HUGE = 10 ** 18 - 1
SORT = Rules("ab", [("R1", "ba", "ab")])
SQUARE = Rules("ab", [("R1", "aa", ""), ("R2", "bb", "b"), ("R3", "aba", "b")], weights=[2, 3])
NONE = Rules("ab", [])
# Going down from ccccc passes words of more than 32 letters.
GROWING = Rules("abc", [("R1", "c", "b" * 8), ("R2", "b", "a" * 8)], weights=[1, 9, 99])


def terms_of(rules, pairs):
    """The terms for pairs of a number and any word, as point 101 says."""
    words = sort_words(rules.letters, rules.weights, list({last_word(rules, word): True for _, word in pairs}))
    numbers = [sum(number for number, other in pairs if last_word(rules, other) == word) for word in words]
    return [(number, word) for number, word in zip(numbers, words) if number != 0]


def some_sum(rules, many, number=1):
    """A sum of the first so many last words; more than 40 are added."""
    words = list_last(rules, many=many)
    total = Sum(rules)
    for at in range(0, many, 40):
        total = total + Sum(rules, [(number, word) for word in words[at:at + 40]])
    return total


class TestForming(Case):

    def test_heading(self):
        self.assertEqual(str(inspect.signature(Sum)), "(rules, terms=())")
        self.assertEqual(Sum(terms=[(1, "a")], rules=NONE), Sum(NONE, [(1, "a")]))
        self.assertEqual(Sum(NONE).terms, [])
        self.assertEqual(Sum(NONE, []), Sum(NONE))

    def test_properties(self):
        one = Sum(SORT, [(2, "ba"), (1, "b")])
        self.assertEqual(one.rules, SORT)
        self.assertEqual(one.terms, [(1, "b"), (2, "ab")])
        for name in ["rules", "terms"]:
            self.assertIsInstance(inspect.getattr_static(Sum, name), property)

    def test_terms_that_meet_and_cancel(self):
        self.assertEqual(list(Sum(SORT, [(2, "ba"), (1, "ab"), (0, "a")])), [(3, "ab")])
        self.assertEqual(Sum(SORT, [(2, "ba"), (-2, "ab")]).terms, [])
        self.assertEqual(Sum(SORT, [(2, "ba"), (1, "b"), (-2, "ab"), (-1, "bba")]).terms, [(1, "b"), (-1, "abb")])
        self.assertEqual(Sum(SORT, [(1, "a"), (1, "a"), (-2, "a"), (5, "a")]).terms, [(5, "a")])
        self.assertEqual(Sum(SORT, [(0, ""), (0, "b")]).terms, [])

    def test_ascending_words(self):
        self.assertEqual(Sum(SQUARE, [(1, "ba"), (1, "b"), (1, "a"), (1, ""), (1, "ab")]).terms,
                         [(1, ""), (1, "a"), (1, "b"), (1, "ab"), (1, "ba")])
        heavy = Rules("ab", [], weights=[5, 1])
        self.assertEqual(Sum(heavy, [(1, "a"), (2, "bb"), (3, "bbbbbb")]).terms, [(2, "bb"), (1, "a"), (3, "bbbbbb")])
        self.assertEqual(Sum(Rules("ba", []), [(1, "a"), (2, "b")]).terms, [(2, "b"), (1, "a")])

    def test_40_and_41_terms(self):
        terms = [(at + 1, "ab"[at % 2] * (1 + at // 2)) for at in range(40)]
        self.assertEqual(len(Sum(NONE, terms)), 40)
        self.assertEqual(Sum(NONE, [(1, "a")] * 40).terms, [(40, "a")])
        self.refuses(TooMany(), Sum, NONE, [(1, "a")] * 41)
        self.refuses(TooMany(), Sum, NONE, [(0, "a")] * 41)
        self.refuses(TooMany(), Sum, NONE, terms + [(1, "")])

    def test_wrong_words(self):
        for number in [1, 0, -HUGE]:
            self.refuses(BadWord("c"), Sum, NONE, [(1, "a"), (number, "c"), (1, "?")])
            self.refuses(TooLong(), Sum, NONE, [(1, "a"), (number, "a" * 33), (1, "?")])
            self.refuses(TooLong(), Sum, GROWING, [(1, "a"), (number, "ccccc"), (1, "b")])

    def test_all_words_are_examined_before_any_of_them_goes_down(self):
        self.refuses(BadWord("d"), Sum, GROWING, [(1, "ccccc"), (1, "d"), (1, "a" * 33)])
        self.refuses(TooLong(), Sum, GROWING, [(1, "ccccc"), (1, "a" * 33), (1, "d")])

    def test_numbers_of_many_digits(self):
        self.assertEqual(Sum(SORT, [(HUGE, "ab"), (HUGE, "ba"), (-1, "a")]).terms, [(-1, "a"), (2 * HUGE, "ab")])
        self.assertEqual(Sum(SORT, [(HUGE, "ab"), (-HUGE, "ba")]).terms, [])
        power = Sum(NONE, [(HUGE, "")])
        for _ in range(5):
            power = power * power
        self.assertEqual(power.terms, [(HUGE ** 32, "")])
        self.assertEqual(Sum(NONE, power.terms), power)
        self.assertEqual(power.times(HUGE).terms, [(HUGE ** 33, "")])

    def test_lists_that_are_changed_later(self):
        given = [(2, "ba"), (1, "b")]
        one = Sum(SORT, given)
        given.append((1, ""))
        given.reverse()
        self.assertEqual(one.terms, [(1, "b"), (2, "ab")])
        spoil(one.terms)
        self.assertEqual(one.terms, [(1, "b"), (2, "ab")])
        self.assertEqual(len(one), 2)

    def test_random_terms(self):
        luck = random.Random(7)
        for _ in range(200):
            rules = luck.choice([SORT, SQUARE, NONE])
            pairs = [(luck.choice([0, 1, -1, 2, HUGE]), "".join(luck.choice("ab") for _ in range(luck.randint(0, 3))))
                     for _ in range(luck.choice([0, 3, 40]))]
            self.assertEqual(Sum(rules, pairs).terms, terms_of(rules, pairs))
            self.assertEqual(Sum(rules, Sum(rules, pairs).terms).terms, terms_of(rules, pairs))


class TestAsking(Case):

    ONE = Sum(SORT, [(2, "ba"), (-1, "b"), (7, "")])

    def test_number_of(self):
        self.assertEqual([self.ONE.number_of(word) for word in ["", "a", "b", "ab", "ba", "bab"]], [7, 0, -1, 2, 2, 0])
        self.assertEqual(self.ONE.number_of(word="ba"), 2)
        self.assertEqual(Sum(SORT).number_of("ba"), 0)

    def test_errors_of_number_of(self):
        self.refuses(BadWord("c"), self.ONE.number_of, "c")
        self.refuses(TooLong(), self.ONE.number_of, "a" * 33)
        self.refuses(TooLong(), Sum(GROWING).number_of, "ccccc")

    def test_len_iteration_bool_and_in(self):
        self.assertEqual(len(self.ONE), 3)
        self.assertEqual(list(self.ONE), [(7, ""), (-1, "b"), (2, "ab")])
        self.assertEqual([word for number, word in self.ONE], ["", "b", "ab"])
        self.assertIs(bool(self.ONE), True)
        self.assertIs(bool(Sum(SORT)), False)
        self.assertIs(bool(Sum(SORT, [(0, "a")])), False)
        self.assertIs(bool(Sum(SORT, [(-1, "")])), True)
        self.assertEqual(len(Sum(SORT)), 0)
        self.assertEqual(list(Sum(SORT)), [])

    def test_words_within(self):
        for word, within in [("", True), ("b", True), ("ab", True), ("ba", False), ("a", False), ("abb", False)]:
            self.assertIs(word in self.ONE, within)
        self.assertIs("" in Sum(SORT, [(1, "a")]), False)
        self.assertIs("a" * 32 in Sum(NONE, [(1, "a" * 32)]), True)

    def test_equal_sums(self):
        self.assertTrue(self.ONE == Sum(Rules("ab", [("R1", "ba", "ab")]), [(7, ""), (-1, "b"), (1, "ab"), (1, "ba")]))
        self.assertFalse(self.ONE != Sum(SORT, self.ONE.terms))
        for terms in [[], [(7, ""), (-1, "b")], [(7, ""), (-1, "b"), (3, "ab")], [(7, ""), (-1, "a"), (2, "ab")]]:
            self.assertFalse(self.ONE == Sum(SORT, terms))
            self.assertTrue(self.ONE != Sum(SORT, terms))

    def test_sums_over_other_rules(self):
        terms = [(7, ""), (-1, "b"), (2, "ab")]
        for rules in [NONE,
                      Rules("ab", [("R2", "ba", "ab")]), Rules("ab", [("R1", "ba", "ab")], weights=[2, 2]),
                      Rules("abc", [("R1", "ba", "ab")])]:
            self.assertEqual(Sum(rules, terms).terms, terms)
            self.assertFalse(self.ONE == Sum(rules, terms))
            self.assertTrue(self.ONE != Sum(rules, terms))
            self.assertFalse(Sum(SORT) == Sum(rules))

    def test_other_kinds(self):
        for other in [self.ONE.terms, tuple(self.ONE.terms), SORT, 0, None, "", []]:
            self.assertIs(self.ONE == other, False)
            self.assertIs(Sum(SORT) == other, False)
            self.assertIs(self.ONE != other, True)


class TestReckoning(Case):

    def test_times(self):
        one = Sum(SORT, [(2, "ba"), (-1, "b")])
        self.assertEqual(one.times(3).terms, [(-3, "b"), (6, "ab")])
        self.assertEqual(one.times(-1).terms, [(1, "b"), (-2, "ab")])
        self.assertEqual(one.times(1), one)
        self.assertEqual(one.times(0).terms, [])
        self.assertEqual(one.times(number=2), one + one)
        self.assertEqual(one.times(HUGE).times(-HUGE).number_of("b"), HUGE * HUGE)
        self.assertEqual(Sum(SORT).times(5), Sum(SORT))

    def test_adding_subtracting_and_negating(self):
        one, other = Sum(SORT, [(2, "ba"), (-1, "b")]), Sum(SORT, [(1, "b"), (5, ""), (-1, "ab")])
        self.assertEqual((one + other).terms, [(5, ""), (1, "ab")])
        self.assertEqual((one - other).terms, [(-5, ""), (-2, "b"), (3, "ab")])
        self.assertEqual((other - one).terms, [(5, ""), (2, "b"), (-3, "ab")])
        self.assertEqual((-one).terms, [(1, "b"), (-2, "ab")])
        self.assertEqual((one - one).terms, [])
        self.assertEqual((one + Sum(SORT)).terms, one.terms)
        self.assertEqual((Sum(SORT) - one), -one)
        self.assertEqual(-Sum(SORT), Sum(SORT))

    def test_multiplying(self):
        one, other = Sum(SORT, [(2, "b"), (3, "")]), Sum(SORT, [(1, "a"), (-1, "b")])
        self.assertEqual((one * other).terms, [(3, "a"), (-3, "b"), (2, "ab"), (-2, "bb")])
        self.assertEqual((other * one).terms, [(3, "a"), (-3, "b"), (2, "ab"), (-2, "bb")])
        self.assertEqual((one * Sum(SORT)).terms, [])
        self.assertEqual((Sum(SORT) * one).terms, [])
        ordered = Sum(NONE, [(1, "a")]) * Sum(NONE, [(2, "b")])
        self.assertEqual(ordered.terms, [(2, "ab")])
        self.assertEqual((Sum(SQUARE, [(1, "a"), (1, "")]) * Sum(SQUARE, [(1, "a"), (-1, "")])).terms, [])

    def test_they_stay_as_they_were(self):
        one, other = Sum(SORT, [(2, "ba"), (-1, "b")]), Sum(SORT, [(1, "b"), (5, "")])
        results = [one + other, one - other, one * other, -one, one.times(0), one.times(2)]
        for result in results:
            spoil(result.terms)
            spoil(list(result))
        self.assertEqual((one.terms, other.terms), ([(-1, "b"), (2, "ab")], [(5, ""), (1, "b")]))
        self.assertEqual(results, [one + other, one - other, one * other, -one, one.times(0), one.times(2)])
        total = one
        total += other
        self.assertEqual(total, one + other)
        self.assertEqual(one.terms, [(-1, "b"), (2, "ab")])

    def test_results_are_sums_over_the_rules(self):
        one = Sum(SORT, [(2, "ba"), (-1, "b")])
        for result in [one + one, one - one, one * one, -one, one.times(3)]:
            self.assertIs(type(result), Sum)
            self.assertEqual(result.rules, SORT)
            self.assertEqual(result, Sum(SORT, result.terms))

    def test_random_sums(self):
        luck = random.Random(8)
        for _ in range(150):
            rules = luck.choice([SORT, SQUARE, NONE])
            lists = [[(luck.choice([0, 1, -1, 2, -3]), "".join(luck.choice("ab") for _ in range(luck.randint(0, 4))))
                      for _ in range(luck.choice([0, 2, 5]))] for _ in range(2)]
            one, other = Sum(rules, lists[0]), Sum(rules, lists[1])
            self.assertEqual((one + other).terms, terms_of(rules, lists[0] + lists[1]))
            turned = [[(-number, word) for number, word in pairs] for pairs in lists]
            self.assertEqual((one - other).terms, terms_of(rules, lists[0] + turned[1]))
            self.assertEqual((-one).terms, terms_of(rules, turned[0]))
            pairs = [(number * many, word + further) for number, word in one for many, further in other]
            self.assertEqual((one * other).terms, terms_of(rules, pairs))

    def test_400_and_401_terms(self):
        one = some_sum(NONE, 400)
        self.assertEqual(len(one), 400)
        longer = Sum(NONE, [(1, "b" * 20)])
        for total in [lambda: one + longer, lambda: one - longer, lambda: longer + one, lambda: longer - one]:
            self.refuses(TooMany(), total)
        self.assertEqual(len(one + Sum(NONE, [(-1, ""), (1, "b" * 20)])), 400)
        self.assertEqual(len(one - Sum(NONE, [(1, ""), (1, "b" * 20)])), 400)
        self.assertEqual(len(one + one), 400)
        self.assertEqual(len(-one), 400)
        self.assertEqual(len(one.times(7)), 400)
        self.assertEqual(len(one - some_sum(NONE, 399)), 1)

    def test_400_and_more_pairs_of_terms(self):
        twenty, other = some_sum(NONE, 20), some_sum(NONE, 21)
        self.assertEqual(sum(number for number, word in twenty * twenty), 400)
        self.refuses(TooMany(), lambda: twenty * other)
        self.refuses(TooMany(), lambda: other * twenty)
        self.assertEqual(some_sum(NONE, 400) * Sum(NONE, [(1, "")]), some_sum(NONE, 400))
        self.assertEqual(len(Sum(NONE, [(1, "a")]) * some_sum(NONE, 400)), 400)
        self.refuses(TooMany(), lambda: some_sum(NONE, 201) * some_sum(NONE, 2))
        # The number of pairs counts before the product is formed, where a word would be too long.
        long = Sum(NONE, [(1, "a" * 32)] + [(1, "b" * at) for at in range(1, 21)])
        self.refuses(TooMany(), lambda: long * twenty)
        self.refuses(TooLong(), lambda: long * Sum(NONE, [(1, "b")]))

    def test_32_and_33_letters_joined(self):
        one = Sum(NONE, [(1, "a" * 16)])
        self.assertEqual((one * one).terms, [(1, "a" * 32)])
        self.refuses(TooLong(), lambda: one * Sum(NONE, [(1, "a" * 17)]))
        self.refuses(TooLong(), lambda: Sum(NONE, [(1, "a" * 32)]) * Sum(NONE, [(1, "b")]))
        self.assertEqual((Sum(NONE, [(1, "a" * 32)]) * Sum(NONE, [(1, "")])).terms, [(1, "a" * 32)])
        # The joined word counts, not the last word that it goes down to.
        small = Rules("ab", [("R1", "b", "")])
        self.assertEqual((Sum(small, [(1, "a" * 32)]) * Sum(small, [(1, "b")])).terms, [(1, "a" * 32)])
        rules = Rules("ab", [("R1", "ab", "")])
        self.refuses(TooLong(), lambda: Sum(rules, [(1, "a" * 17)]) * Sum(rules, [(1, "b" * 16)]))
        self.assertEqual((Sum(rules, [(1, "a" * 16)]) * Sum(rules, [(1, "b" * 16)])).terms, [(1, "")])

    def test_products_that_go_down_too_long(self):
        rules = Rules("abc", [("R1", "ca", "b" * 8), ("R2", "b", "a" * 8)], weights=[1, 9, 99])
        one, other = Sum(rules, [(1, "c")]), Sum(rules, [(1, "a")])
        self.assertEqual((other * one).terms, [(1, "ac")])
        self.refuses(TooLong(), lambda: one * other)

    def test_bad_sum(self):
        one = Sum(SORT, [(1, "a" * 17)])
        for rules in [NONE, Rules("ab", [("R2", "ba", "ab")]), Rules("abc", [("R1", "ba", "ab")]),
                      Rules("ab", [("R1", "ba", "ab")], weights=[1, 2])]:
            for other in [Sum(rules), Sum(rules, [(1, "a")]), Sum(rules, [(1, "a" * 32)]), some_sum(rules, 400)]:
                for result in [lambda: one + other, lambda: one - other, lambda: one * other, lambda: other + one,
                               lambda: other - one, lambda: other * one]:
                    self.refuses(BadSum(), result)
        equal = Rules("ab", [("R1", "ba", "ab")])
        self.assertEqual((one + Sum(equal, [(1, "b")])).terms, [(1, "b"), (1, "a" * 17)])

    def test_bad_sum_before_too_many_terms(self):
        one, other = some_sum(NONE, 400), some_sum(Rules("ab", [], weights=[2, 2]), 400)
        for result in [lambda: one + other, lambda: one - other, lambda: one * other]:
            self.refuses(BadSum(), result)

    def test_laws(self):
        sums = [Sum(SQUARE, terms) for terms in [[], [(2, "a"), (1, "b")], [(-1, "ab"), (3, "")], [(1, "ba")]]]
        unit = Sum(SQUARE, [(1, "")])
        for one, other in itertools.product(sums, sums):
            self.assertEqual(one + other, other + one)
            self.assertEqual(one - other, one + -other)
            self.assertEqual(one * unit, one)
            for third in sums:
                self.assertEqual((one + other) * third, one * third + other * third)


if __name__ == "__main__":
    unittest.main()
