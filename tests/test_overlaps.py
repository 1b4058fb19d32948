"""Points 39 to 43: overlaps.py."""

import itertools
import unittest

from helpers import Case
from wayfill.down import last_word
from wayfill.errors import BadStep, BadWord, TooLong, TooMany, Unknown
from wayfill.overlaps import is_complete, is_overlap, list_overlaps, meeting, open_overlaps
from wayfill.rules import Rules
from wayfill.steps import do_step

HUGE = 10 ** 18 - 1

SAMPLES = [
    Rules("ab", []),
    Rules("a", [("R1", "aa", "a")]),
    Rules("ab", [("R1", "aba", "b")]),
    Rules("ab", [("R1", "ab", "a"), ("R2", "ab", "b")]),
    Rules("ab", [("R1", "abaab", ""), ("R2", "aa", "a"), ("R3", "ba", "ab")]),
    Rules("ab", [("R3", "ba", "ab"), ("R2", "aa", "a"), ("R1", "abaab", "")]),
    Rules("ab", [("B", "a", ""), ("A", "aaa", "b"), ("C", "bab", "a"), ("D", "a", "")]),
    Rules("abc", [("R1", "abc", "c"), ("R2", "cab", "b"), ("R3", "b", "")], weights=[1, 2, 3]),
]

# A word with a d is too long to go down from, as these make 64 letters of it.
GROWING = [("R3", "d", "c" * 8), ("R4", "c", "b" * 8)]
WEIGHTS = [1, 1, 9, 99]


def right_overlap(rules, word, one, other):
    """Whether this is an overlap, place by place as point 40 says."""
    covered = []
    for sign, name, place in [one, other]:
        left = rules.left_of(name)
        if word[place:place + len(left)] != left or place + len(left) > len(word):
            return False
        covered.append(set(range(place, place + len(left))))
    if one == other or not covered[0] & covered[1] or covered[0] | covered[1] != set(range(len(word))):
        return False
    return (one[2], rules.rank_of(one[1])) < (other[2], rules.rank_of(other[1]))


def all_overlaps(rules):
    """The overlaps, found among all words that two left sides can cover."""
    found = []
    for one, other in itertools.product(rules.names, rules.names):
        for place in range(9):
            left, further = rules.left_of(one), rules.left_of(other)
            word = left[:place] + further
            if len(word) < len(left):
                word = left
            overlap = (word, (1, one, 0), (1, other, place))
            if right_overlap(rules, *overlap):
                found.append(overlap)
    return found


class TestListing(Case):

    def test_a_rule_with_itself(self):
        rules = Rules("a", [("R1", "aaa", "a")])
        self.assertEqual(list_overlaps(rules), [("aaaa", (1, "R1", 0), (1, "R1", 1)),
                                                ("aaaaa", (1, "R1", 0), (1, "R1", 2))])
        self.assertEqual(list_overlaps(Rules("ab", [("R1", "ab", "")])), [])
        self.assertEqual(list_overlaps(Rules("ab", [("R1", "b", "")])), [])

    def test_one_range_within_the_other(self):
        rules = Rules("ab", [("R1", "abaa", ""), ("R2", "a", "")])
        self.assertEqual(list_overlaps(rules), [("abaabaa", (1, "R1", 0), (1, "R1", 3)),
                                                ("abaa", (1, "R1", 0), (1, "R2", 0)),
                                                ("abaa", (1, "R1", 0), (1, "R2", 2)),
                                                ("abaa", (1, "R1", 0), (1, "R2", 3))])

    def test_the_shorter_left_side_first_at_the_same_place(self):
        rules = Rules("ab", [("R2", "a", ""), ("R1", "ab", "b")])
        self.assertEqual(list_overlaps(rules), [("ab", (1, "R2", 0), (1, "R1", 0))])
        rules = Rules("ab", [("R1", "ab", "b"), ("R2", "a", "")])
        self.assertEqual(list_overlaps(rules), [("ab", (1, "R1", 0), (1, "R2", 0))])

    def test_equal_left_sides(self):
        rules = Rules("ab", [("R1", "ab", "a"), ("A", "ab", "b"), ("B", "ab", "a")])
        self.assertEqual(list_overlaps(rules), [("ab", (1, "R1", 0), (1, "A", 0)), ("ab", (1, "R1", 0), (1, "B", 0)),
                                                ("ab", (1, "A", 0), (1, "B", 0))])

    def test_the_order(self):
        rules = Rules("ab", [("Z", "aba", "b"), ("A", "ba", "ab")])
        self.assertEqual(list_overlaps(rules), [("ababa", (1, "Z", 0), (1, "Z", 2)), ("aba", (1, "Z", 0), (1, "A", 1)),
                                                ("baba", (1, "A", 0), (1, "Z", 1))])

    def test_against_the_definition(self):
        for rules in SAMPLES:
            overlaps = list_overlaps(rules)
            self.assertEqual(overlaps, all_overlaps(rules))
            for overlap in overlaps:
                self.judges(True, is_overlap, rules, overlap)

    def test_200_and_201_overlaps(self):
        rows = [(f"A{at}", "a" * 8, "") for at in range(5)] + [("B1", "b" * 5, ""), ("B2", "b" * 4, "")]
        rules = Rules("abc", rows)
        self.assertEqual(len(list_overlaps(rules)), 200)
        self.assertGreater(len(open_overlaps(rules)), 0)
        self.judges(False, is_complete, rules)
        more = Rules("abc", rows + [("C", "cc", "")])
        for call in [list_overlaps, open_overlaps, is_complete]:
            self.refuses(TooMany(), call, more)
        self.judges(True, is_overlap, more, ("ccc", (1, "C", 0), (1, "C", 1)))


class TestJudging(Case):

    def test_all_short_tuples(self):
        rules = Rules("ab", [("R1", "aba", "b"), ("R2", "a", ""), ("R3", "ba", "b")])
        words = ["".join(row) for many in range(6) for row in itertools.product("ab", repeat=many)]
        steps = [(1, name, place) for name in rules.names for place in range(4)]
        listed = list_overlaps(rules)
        for word, one, other in itertools.product(words, steps, steps):
            right = right_overlap(rules, word, one, other)
            self.judges(right, is_overlap, rules, (word, one, other))
            self.assertEqual(right, (word, one, other) in listed)

    def test_tuples_that_are_none(self):
        rules = Rules("ab", [("R1", "aba", "b"), ("R2", "ab", "b")])
        one, other = (1, "R1", 0), (1, "R1", 2)
        self.judges(True, is_overlap, rules, ("ababa", one, other))
        for overlap in [("ababa", other, one), ("ababab", one, other), ("bababa", one, other), ("abab", one, other),
                        ("", one, other), ("abcba", one, other), ("ababa", (-1, "R1", 0), other),
                        ("ababa", one, (-1, "R1", 2)), ("ababa", (5, "R1", 0), other), ("ababa", one, (0, "R1", 2)),
                        ("ababa", one, (1, "R1", 1)), ("ababa", one, (1, "R1", 3)), ("ababa", one, (1, "R1", -2)),
                        ("ababa", (1, "R1", 1), (1, "R1", 3)), ("ababa", (1, "R9", 0), other),
                        ("ababa", one, (1, "", 2)), ("aba", one, one), ("ababa", one, one),
                        ("ababa", one, (1, "R1", HUGE)), ("ababa", one, (1, "R1", -HUGE)),
                        ("ababa", (1, "R1", -1), other), ("aba", (1, "R2", 0), one),
                        ("abaaba", one, (1, "R1", 3)), ("a" * 5000, one, other), ("?", (5, "", -1), (5, "", -1))]:
            self.judges(False, is_overlap, rules, overlap)
        self.judges(True, is_overlap, rules, ("aba", one, (1, "R2", 0)))


class TestMeetings(Case):

    RULES = Rules("ab", [("R1", "aba", "b"), ("R2", "ab", "a"), ("E", "aa", ""), ("G", "b", "aaa")], weights=[1, 9])

    def both_orders(self, word, one, other, expected):
        self.assertEqual(meeting(self.RULES, word, one, other), expected)
        self.assertEqual(meeting(self.RULES, word, other, one), expected)

    def test_equal_steps(self):
        self.both_orders("aba", (1, "R1", 0), (1, "R1", 0), ("same", 0, None))
        self.both_orders("baba", (1, "R1", 1), (1, "R1", 1), ("same", 0, None))

    def test_steps_that_are_apart(self):
        self.both_orders("abaab", (1, "R1", 0), (1, "R2", 3), ("apart", 0, None))
        self.both_orders("aaab", (1, "E", 0), (1, "R2", 2), ("apart", 0, None))
        self.both_orders("aabab", (1, "E", 0), (1, "G", 4), ("apart", 0, None))
        self.both_orders("bb", (1, "G", 0), (1, "G", 1), ("apart", 0, None))

    def test_steps_that_overlap(self):
        self.both_orders("bababa", (1, "R1", 1), (1, "R1", 3),
                         ("overlap", 1, ("ababa", (1, "R1", 0), (1, "R1", 2))))
        self.both_orders("aaab", (1, "E", 1), (1, "R2", 2), ("overlap", 1, ("aab", (1, "E", 0), (1, "R2", 1))))
        self.both_orders("aaab", (1, "E", 0), (1, "E", 1), ("overlap", 0, ("aaa", (1, "E", 0), (1, "E", 1))))

    def test_ranges_within_one_another(self):
        self.both_orders("bbabab", (1, "R1", 2), (1, "G", 3), ("overlap", 2, ("aba", (1, "R1", 0), (1, "G", 1))))
        self.both_orders("baba", (1, "R2", 1), (1, "R1", 1), ("overlap", 1, ("aba", (1, "R1", 0), (1, "R2", 0))))
        rules = Rules("ab", [("S", "a", ""), ("L", "aba", "")])
        for pair in [((1, "S", 1), (1, "L", 1)), ((1, "L", 1), (1, "S", 1))]:
            self.assertEqual(meeting(rules, "bababb", *pair), ("overlap", 1, ("aba", (1, "S", 0), (1, "L", 0))))

    def test_every_meeting_is_an_overlap_of_the_word(self):
        words = ["".join(row) for row in itertools.product("ab", repeat=6)]
        for rules in SAMPLES[1:7]:
            for word in [word for word in words if not set(word) - set(rules.letters)]:
                steps = [(1, name, place) for name in rules.names for place in range(6)
                         if word.startswith(rules.left_of(name), place)]
                for one, other in itertools.product(steps, steps):
                    self.checked(rules, word, one, other)

    def checked(self, rules, word, one, other):
        kind, place, overlap = meeting(rules, word, one, other)
        first, second = [range(step[2], step[2] + len(rules.left_of(step[1]))) for step in [one, other]]
        if kind == "overlap":
            self.judges(True, is_overlap, rules, overlap)
            self.assertTrue(word.startswith(overlap[0], place))
            moved = [(sign, name, at + place) for sign, name, at in overlap[1:]]
            self.assertEqual(sorted(moved), sorted([one, other]))
        expected = "same" if one == other else "overlap" if set(first) & set(second) else "apart"
        self.assertEqual(kind, expected)

    def test_results_may_be_too_long(self):
        word = "a" * 31 + "b"
        self.both_orders(word, (1, "G", 31), (1, "R2", 30), ("overlap", 30, ("ab", (1, "R2", 0), (1, "G", 1))))
        self.both_orders(word, (1, "G", 31), (1, "E", 0), ("apart", 0, None))

    def test_errors_in_order(self):
        right, unknown = (1, "R1", 0), (1, "R9", 0)
        self.refuses(BadWord("abac"), meeting, self.RULES, "abac", unknown, unknown)
        self.refuses(TooLong(), meeting, self.RULES, "a" * 33, unknown, unknown)
        self.refuses(Unknown("R9"), meeting, self.RULES, "aba", unknown, (1, "R8", 0))
        self.refuses(Unknown("R9"), meeting, self.RULES, "aba", (5, "R9", -1), right)
        self.refuses(Unknown("R9"), meeting, self.RULES, "aba", right, (-1, "R9", 0))
        for wrong in [(1, "R1", 1), (1, "R1", -1), (1, "R1", HUGE), (-1, "G", 0), (-1, "E", 0), (0, "R1", 0),
                      (2, "R1", 0)]:
            self.refuses(BadStep(0), meeting, self.RULES, "aba", wrong, unknown)
            self.refuses(BadStep(0), meeting, self.RULES, "aba", wrong, wrong)
            self.refuses(BadStep(1), meeting, self.RULES, "aba", right, wrong)


class TestOpenOverlaps(Case):

    def test_open_ones(self):
        rules = Rules("ab", [("R1", "aba", "b")])
        self.assertEqual(open_overlaps(rules), [("ababa", (1, "R1", 0), (1, "R1", 2))])
        self.judges(False, is_complete, rules)
        rules = Rules("ab", [("R1", "ab", "a"), ("R2", "ab", "b"), ("R3", "ab", "a")])
        self.assertEqual(open_overlaps(rules), [("ab", (1, "R1", 0), (1, "R2", 0)), ("ab", (1, "R2", 0), (1, "R3", 0))])

    def test_complete_rules(self):
        for rules in [Rules("ab", []), Rules("a", [("R1", "aa", "a")]), Rules("ab", [("R1", "ba", "ab")]),
                      Rules("ab", [("R1", "aba", "b"), ("R2", "bba", "abb")]),
                      Rules("ab", [("R1", "ab", "a"), ("R2", "ab", "a")])]:
            self.assertEqual(open_overlaps(rules), [])
            self.judges(True, is_complete, rules)

    def test_against_the_last_words(self):
        for rules in SAMPLES:
            found = [overlap for overlap in list_overlaps(rules)
                     if last_word(rules, do_step(rules, overlap[0], overlap[1]))
                     != last_word(rules, do_step(rules, overlap[0], overlap[2]))]
            self.assertEqual(open_overlaps(rules), found)
            self.judges(not found, is_complete, rules)

    def test_is_complete_stops_at_the_first_open_overlap(self):
        rows = [("R1", "ab", "a"), ("R2", "ab", "b")] + GROWING + [("R5", "dd", "")]
        rules = Rules("abcd", rows, weights=WEIGHTS)
        self.judges(False, is_complete, rules)
        self.refuses(TooLong(), open_overlaps, rules)
        later = Rules("abcd", rows[2:] + rows[:2], weights=WEIGHTS)
        self.refuses(TooLong(), is_complete, later)
        self.refuses(TooLong(), open_overlaps, later)

    def test_equal_results_are_gone_down_from(self):
        rows = [("R1", "ab", "c"), ("R2", "ab", "c"), ("R3", "c", "d" * 8), ("R4", "d", "e" * 8)]
        rules = Rules("abcde", rows, weights=[50, 50, 80, 9, 1])
        self.assertEqual(len(list_overlaps(rules)), 1)
        self.refuses(TooLong(), is_complete, rules)
        self.refuses(TooLong(), open_overlaps, rules)

    def test_both_results_are_gone_down_from(self):
        for rows in [[("R1", "ba", "d"), ("R2", "ba", "a")], [("R1", "ba", "a"), ("R2", "ba", "d")]]:
            rules = Rules("abcd", rows + GROWING, weights=[99, 1, 9, 99])
            self.refuses(TooLong(), is_complete, rules)
            self.refuses(TooLong(), open_overlaps, rules)

    def test_too_many_comes_ahead_of_everything(self):
        rows = [("R1", "ab", "a"), ("R2", "ab", "b")] + GROWING + [("R5", "dd", "")]
        rows += [(f"A{at}", "b" * 8, "") for at in range(7)]
        rules = Rules("abcd", rows, weights=WEIGHTS)
        for call in [list_overlaps, open_overlaps, is_complete]:
            self.refuses(TooMany(), call, rules)


if __name__ == "__main__":
    unittest.main()
