"""Points 106 to 110: gaps.py."""

import itertools
import random
import unittest

from helpers import Case
from test_fill import SAMPLES
from wayfill.errors import BadEnds, BadNumber, BadStep, BadWord, TooLong, TooMany, Unknown
from wayfill.gaps import compare_ways, count_ways, fill_gaps, first_misfit, mend, way_at, way_rank
from wayfill.rules import Rules
from wayfill.steps import do_step, fits, steps_at
from wayfill.ways import way_end, way_words

HUGE = 10 ** 18 - 1
SORT = Rules("ab", [("R1", "ba", "ab")])
FREE = Rules("ab", [("R1", "ba", "ab"), ("R2", "aa", ""), ("R3", "b", "a")])
NONE = Rules("ab", [])
ON, BACK = (1, "R1", 0), (-1, "R1", 0)


def all_ways(rules, begin, steps):
    """All ways of so many steps from the word, in the way order."""
    if steps == 0:
        return [(begin, ())]
    found = []
    for step in steps_at(rules, begin):
        found += [(begin, (step,) + way[1]) for way in all_ways(rules, do_step(rules, begin, step), steps - 1)]
    return found


def ways_between(rules, begin, end, steps):
    """Those of them that end at the end."""
    return [way for way in all_ways(rules, begin, steps) if way_end(rules, way) == end]


def fills(way, row):
    """Whether the way has as many steps and each entry as its step."""
    return len(way[1]) == len(row) and all(entry in (None, step) for entry, step in zip(row, way[1]))


def words_at(rules, begin, row, number):
    """The words at the number, by the words of point 108."""
    words = {begin}
    for entry in row[:number]:
        words = {do_step(rules, word, step) for word in words for step in steps_at(rules, word)
                 if entry in (None, step)}
    return words


def visited(rules, begin, steps):
    """The words that ways of at most so many steps visit."""
    words = {begin}
    for _ in range(steps):
        words |= {do_step(rules, word, step) for word in words for step in steps_at(rules, word)}
    return words


def heavy(*sizes):
    """Rules that have a letter b, c or d for so many letters a."""
    rows = [(f"R{at}", "bcd"[at], "a" * size) for at, size in enumerate(sizes)]
    return Rules("abcd", rows, weights=[1, 50, 60, 70])


# From these words two steps visit 400 and 401 words in all.
ALL_400 = heavy(3, 2, 5), "a" * 14
ALL_401 = heavy(5, 5), "a" * 22
# From these words two steps lead to 400 and 401 words.
AT_400 = heavy(1, 6), "a" * 7 + "d" + "a" * 14
AT_401 = heavy(7, 1), "a" * 20


class TestCounting(Case):

    def test_worked_examples(self):
        self.assertEqual([count_ways(SORT, "ba", "ba", steps=steps) for steps in range(7)], [1, 0, 1, 0, 1, 0, 1])
        self.assertEqual([count_ways(SORT, "ba", "ab", steps=steps) for steps in range(7)], [0, 1, 0, 1, 0, 1, 0])
        self.assertEqual([count_ways(SORT, "bab", "bab", steps=steps) for steps in range(5)], [1, 0, 2, 0, 4])
        self.assertEqual(count_ways(SORT, "ba", "bb", steps=6), 0)
        self.assertEqual([count_ways(NONE, "a", "a", steps=steps) for steps in range(7)], [1] + [0] * 6)
        self.assertEqual(count_ways(NONE, "a", "b", steps=0), 0)

    def test_rules_with_the_same_sides_give_different_ways(self):
        rules = Rules("ab", [("A", "b", "a"), ("B", "b", "a")])
        self.assertEqual(count_ways(rules, "bb", "aa", steps=2), 8)
        self.assertEqual(count_ways(rules, "bb", "bb", steps=6), 2048)

    def test_numbers(self):
        for steps in [-1, 7, HUGE, -HUGE]:
            self.refuses(BadNumber(steps), count_ways, SORT, "ba", "ab", steps=steps)
            self.refuses(BadNumber(steps), way_at, SORT, "ba", "ab", -1, steps=steps)

    def test_by_all_ways(self):
        luck = random.Random(19)
        for _ in range(60):
            rules = luck.choice(SAMPLES + [FREE])
            begin = "".join(luck.choice(rules.letters) for _ in range(luck.randint(0, 3)))
            steps = luck.randint(0, 3)
            ends = {way_end(rules, way) for way in all_ways(rules, begin, steps)}
            for end in sorted(ends)[:4] + ["", begin]:
                ways = ways_between(rules, begin, end, steps)
                self.assertEqual(count_ways(rules, begin, end, steps=steps), len(ways))
                for rank in sorted({0, len(ways) // 2, len(ways) - 1} & set(range(len(ways)))):
                    self.assertEqual(way_at(rules, begin, end, rank, steps=steps), ways[rank])
                    self.assertEqual(way_rank(rules, ways[rank]), rank)

    def test_400_and_401_visited_words(self):
        rules, word = ALL_400
        self.assertEqual(len(visited(rules, word, 2)), 400)
        self.assertEqual(count_ways(rules, word, word, steps=2), 35)
        self.refuses(TooMany(), count_ways, rules, word, word, steps=3)
        self.assertEqual(mend(rules, word, [None, None], word)[0], 0)
        self.refuses(TooMany(), mend, rules, word, [None] * 3, word)
        rules, word = ALL_401
        self.assertEqual(len(visited(rules, word, 2)), 401)
        self.assertEqual(count_ways(rules, word, word, steps=0), 1)
        self.assertEqual(count_ways(rules, word, word, steps=1), 0)
        self.refuses(TooMany(), count_ways, rules, word, word, steps=2)
        self.refuses(TooMany(), count_ways, rules, word, "b", steps=2)
        self.refuses(TooMany(), way_at, rules, word, word, -1, steps=2)
        self.refuses(TooMany(), way_rank, rules, (word, ((-1, "R0", 0), (1, "R0", 0))))
        self.assertEqual(way_rank(rules, (word, ((-1, "R1", 0),))), 0)
        self.assertEqual(way_rank(rules, (word, ())), 0)
        self.refuses(TooMany(), mend, rules, word, [None, None], word)
        self.refuses(TooMany(), mend, rules, word, [(9, "?", 0), (9, "?", 0)], "b")
        self.assertEqual(mend(rules, word, [None], word), None)
        self.assertEqual(mend(rules, word, [], word), (0, (word, ())))

    def test_words_of_32_letters(self):
        rules = Rules("ab", [("R1", "b", "aa")], weights=[1, 3])
        # A step on would make 33 letters, so it fits nowhere.
        self.assertEqual(count_ways(rules, "b" * 32, "b" * 32, steps=6), 0)
        self.assertEqual(count_ways(rules, "b" * 31, "b" * 31, steps=2), 31)


class TestRanks(Case):

    def test_there_and_back(self):
        for begin, end, steps in [("bab", "bab", 4), ("abab", "abab", 4), ("baba", "abab", 5), ("ba", "ba", 6)]:
            many = count_ways(SORT, begin, end, steps=steps)
            ways = [way_at(SORT, begin, end, rank, steps=steps) for rank in range(many)]
            self.assertEqual([way_rank(SORT, way) for way in ways], list(range(many)))
            self.assertEqual(ways, ways_between(SORT, begin, end, steps))
            for way, further in itertools.pairwise(ways):
                self.assertEqual(compare_ways(SORT, way, further), -1)
                self.assertEqual(compare_ways(SORT, further, way), 1)
            for rank in [-1, many, HUGE, -HUGE, -many]:
                self.refuses(BadNumber(rank), way_at, SORT, begin, end, rank, steps=steps)

    def test_no_such_way(self):
        for rank in [0, -1, 1]:
            self.refuses(BadNumber(rank), way_at, SORT, "ba", "ba", rank, steps=1)
            self.refuses(BadNumber(rank), way_at, NONE, "a", "b", rank, steps=0)
        self.assertEqual(way_at(NONE, "a", "a", 0, steps=0), ("a", ()))

    def test_6_and_7_steps(self):
        self.assertEqual(way_rank(SORT, ("ba", (ON, BACK) * 3)), 0)
        self.refuses(TooLong(), way_rank, SORT, ("ba", (ON, BACK) * 3 + (ON,)))
        self.refuses(BadStep(6), way_rank, SORT, ("ba", (ON, BACK) * 3 + (BACK,)))
        self.refuses(TooLong(), way_rank, ALL_401[0], (ALL_401[1], ((-1, "R1", 0), (1, "R1", 0)) * 4))

    def test_arguments_of_way_at_in_order(self):
        self.refuses(BadWord("?"), way_at, SORT, "?", "!", -1, steps=9)
        self.refuses(BadWord("!"), way_at, SORT, "a", "!", -1, steps=9)
        self.refuses(BadNumber(9), way_at, SORT, "a", "a", -1, steps=9)
        self.refuses(TooMany(), way_at, ALL_401[0], ALL_401[1], "a", -1, steps=6)


class TestComparing(Case):

    def test_equal_ways(self):
        for way in [("ba", ()), ("ba", (ON, BACK)), ("ba", (ON, BACK) * 60)]:
            self.assertEqual(compare_ways(SORT, way, way), 0)

    def test_the_step_order(self):
        rules = Rules("ab", [("Z", "ba", "ab"), ("A", "b", "a"), ("M", "ba", "a")])
        word = "baba"
        self.assertEqual([step[:2] for step in steps_at(rules, word)][:3], [(1, "Z"), (1, "A"), (1, "M")])
        ways = [(word, (step,)) for step in steps_at(rules, word)]
        for one, other in itertools.product(range(len(ways)), range(len(ways))):
            self.assertEqual(compare_ways(rules, ways[one], ways[other]), (one > other) - (one < other))

    def test_a_later_step(self):
        one, other = ("bba", ((1, "R1", 1), (1, "R1", 0))), ("bba", ((1, "R1", 1), (-1, "R1", 1)))
        self.assertEqual(compare_ways(SORT, one, other), -1)
        self.assertEqual(compare_ways(SORT, other, one), 1)
        one = ("baba", ((1, "R1", 0), (1, "R1", 2), (1, "R1", 1)))
        other = ("baba", ((1, "R1", 0), (1, "R1", 2), (-1, "R1", 0)))
        self.assertEqual(compare_ways(SORT, one, other), -1)

    def test_the_first_difference_alone_counts(self):
        rules = Rules("ab", [("A", "b", "a"), ("B", "b", "a")])
        one, other = ("bb", ((1, "A", 0), (1, "B", 1))), ("bb", ((1, "B", 0), (1, "A", 1)))
        self.assertEqual(compare_ways(rules, one, other), -1)
        self.assertEqual(compare_ways(rules, other, one), 1)

    def test_bad_ends(self):
        self.refuses(BadEnds(), compare_ways, SORT, ("ba", (ON,)), ("ba", ()))
        self.refuses(BadEnds(), compare_ways, SORT, ("ba", ()), ("ba", (ON,)))
        self.refuses(BadEnds(), compare_ways, SORT, ("ba", ()), ("ab", ()))
        self.refuses(BadEnds(), compare_ways, SORT, ("ba", (ON,)), ("baa", (ON,)))
        # Other ends are no fault.
        self.assertEqual(compare_ways(SORT, ("bab", (ON,)), ("bab", ((-1, "R1", 1),))), -1)

    def test_errors(self):
        self.refuses(Unknown("R2"), compare_ways, SORT, ("ba", ((1, "R2", 0),)), ("?", ()))
        self.refuses(BadWord("?"), compare_ways, SORT, ("ba", (ON,)), ("?", ()))
        self.refuses(TooLong(), compare_ways, SORT, ("ba", (ON,)), ("ba", (ON, BACK) * 61))


class TestFilling(Case):

    def test_rows_without_a_gap(self):
        self.assertIsNone(first_misfit(SORT, "ba", [ON, BACK]))
        self.assertEqual(fill_gaps(SORT, "ba", [ON, BACK], "ba"), ("ba", (ON, BACK)))
        self.assertIsNone(fill_gaps(SORT, "ba", [ON, BACK], "ab"))
        self.assertEqual(first_misfit(SORT, "ba", [BACK, ON]), 0)
        self.assertEqual(first_misfit(SORT, "ba", [ON, ON, ON]), 1)
        self.assertEqual(first_misfit(SORT, "ba", [ON, BACK, ON, BACK, BACK, ON]), 4)
        self.assertIsNone(fill_gaps(SORT, "ba", [BACK, ON], "ba"))

    def test_gaps_alone(self):
        self.assertIsNone(first_misfit(SORT, "ba", [None] * 6))
        self.assertEqual(first_misfit(SORT, "bb", [None]), 0)
        self.assertEqual(fill_gaps(SORT, "ba", [None] * 6, "ba"), ("ba", (ON, BACK) * 3))
        self.assertEqual(fill_gaps(SORT, "bab", [None] * 2, "bab"), ("bab", (ON, BACK)))
        self.assertIsNone(fill_gaps(SORT, "ba", [None] * 5, "ba"))

    def test_the_empty_row(self):
        self.assertIsNone(first_misfit(SORT, "ba", []))
        self.assertEqual(fill_gaps(SORT, "ba", [], "ba"), ("ba", ()))
        self.assertIsNone(fill_gaps(SORT, "ba", [], "ab"))
        self.assertEqual(mend(SORT, "ba", [], "ba"), (0, ("ba", ())))
        self.assertIsNone(mend(SORT, "ba", [], "ab"))

    def test_a_later_misfit_behind_gaps(self):
        self.assertEqual(first_misfit(SORT, "bba", [None, None, None, (1, "R1", 7)]), 3)
        self.assertEqual(first_misfit(SORT, "bba", [None, (1, "R1", 7), None, None]), 1)
        self.assertIsNone(first_misfit(SORT, "bba", [None, None, (-1, "R1", 0)]))
        self.assertEqual(first_misfit(NONE, "a", [None, None]), 0)

    def test_entries_that_lead_nowhere(self):
        for entry in [(1, "R9", 0), (2, "R1", 0), (0, "R1", 0), (-2, "R1", 0), (1, "R1", -1), (1, "R1", HUGE),
                      (HUGE, "", -HUGE), (1, "r1", 0)]:
            self.assertEqual(first_misfit(SORT, "ba", [entry]), 0)
            self.assertEqual(first_misfit(SORT, "ba", [None, None, entry, None]), 2)
            self.assertIsNone(fill_gaps(SORT, "ba", [entry], "ab"))
            self.assertEqual(mend(SORT, "ba", [entry], "ab"), (1, ("ba", (ON,))))

    def test_a_step_whose_result_is_too_long(self):
        rules = Rules("ab", [("R1", "b", "aa")], weights=[1, 3])
        self.assertEqual(first_misfit(rules, "b" * 32, [(1, "R1", 0)]), 0)
        self.assertEqual(first_misfit(rules, "b" * 32, [None]), 0)
        self.assertIsNone(first_misfit(rules, "b" * 31, [(1, "R1", 0)]))

    def test_6_and_7_entries(self):
        for entries in [[None] * 7, [ON] * 7, [(9, "?", -9)] * 1000]:
            self.refuses(TooLong(), first_misfit, SORT, "ba", entries)
            self.refuses(TooLong(), fill_gaps, SORT, "ba", entries, "?")
            self.refuses(TooLong(), mend, SORT, "ba", entries, "?")
        self.assertEqual(fill_gaps(SORT, "ba", [None, None, ON, None, ON, None], "ba"), ("ba", (ON, BACK) * 3))

    def test_arguments_in_order(self):
        for call in (fill_gaps, mend):
            self.refuses(BadWord("?"), call, SORT, "?", [None] * 7, "!")
            self.refuses(BadWord("!"), call, SORT, "ba", [None] * 6, "!")
            self.refuses(TooLong(), call, SORT, "ba", [None] * 6, "a" * 33)
            self.refuses(BadWord("!"), call, ALL_401[0], ALL_401[1], [None] * 6, "!")
        self.refuses(BadWord("?"), first_misfit, SORT, "?", [None] * 7)
        self.refuses(TooLong(), first_misfit, SORT, "a" * 33, [])

    def test_400_and_401_words_at_a_number(self):
        rules, word = AT_400
        self.assertEqual(len(words_at(rules, word, [None, None], 2)), 400)
        self.assertIsNone(first_misfit(rules, word, [None, None]))
        self.assertEqual(first_misfit(rules, word, [None, None, (1, "?", 0), None]), 2)
        filled = fill_gaps(rules, word, [None, None], word)
        self.assertEqual(way_end(rules, filled), word)
        self.refuses(TooMany(), first_misfit, rules, word, [None] * 3)
        # All numbers are formed before any answer is given.
        self.refuses(TooMany(), first_misfit, rules, word, [None] * 3 + [(1, "?", 0)])
        self.refuses(TooMany(), fill_gaps, rules, word, [None] * 3, "b")
        rules, word = AT_401
        self.assertEqual(len(words_at(rules, word, [None, None], 2)), 401)
        self.refuses(TooMany(), first_misfit, rules, word, [None, None])
        self.refuses(TooMany(), first_misfit, rules, word, [None, None, (1, "?", 0)])
        self.refuses(TooMany(), fill_gaps, rules, word, [None, None], word)
        self.assertEqual(first_misfit(rules, word, [None, (1, "?", 0), None, None]), 1)
        self.assertIsNone(fill_gaps(rules, word, [None, (1, "?", 0), None, None], word))
        self.assertIsNone(first_misfit(rules, word, [None, (1, "R0", 0), None]))

    def test_words_at_each_number_count_alone(self):
        # All words together are more than 400.
        rules, word = AT_400
        self.assertGreater(len(visited(rules, word, 2)), 401)
        self.assertIsNone(first_misfit(rules, word, [None, None, (1, "R1", 0), (-1, "R0", 0)]))
        self.refuses(TooMany(), mend, rules, word, [None, None], word)

    def test_by_all_ways(self):
        luck = random.Random(20)
        filled = 0
        for _ in range(150):
            rules = luck.choice(SAMPLES + [FREE, SORT])
            begin = "".join(luck.choice(rules.letters) for _ in range(luck.randint(0, 4)))
            ways = all_ways(rules, begin, luck.choice([0, 1, 2, 3]))
            if not ways:
                continue
            some = luck.choice(ways)
            other = luck.choice([1, -1]), "R1", luck.randint(0, 3)
            row = [luck.choice([None, step, step, other]) for step in some[1]]
            misfits = [at for at in range(len(row)) if not words_at(rules, begin, row, at + 1)]
            self.assertEqual(first_misfit(rules, begin, row), misfits[0] if misfits else None)
            end = luck.choice([way_end(rules, some), begin])
            filling = [way for way in ways if fills(way, row) and way_end(rules, way) == end]
            self.assertEqual(fill_gaps(rules, begin, row, end), filling[0] if filling else None)
            filled += bool(filling)
            self.check_mending(rules, begin, row, end)
        self.assertGreater(filled, 30)

    def check_mending(self, rules, begin, row, end):
        """What mending gives, by the words of point 110."""
        ways = ways_between(rules, begin, end, len(row))
        costs = [sum(entry not in (None, step) for entry, step in zip(row, way[1])) for way in ways]
        if ways:
            least = min(costs)
            self.assertEqual(mend(rules, begin, row, end), (least, ways[costs.index(least)]))
        else:
            self.assertIsNone(mend(rules, begin, row, end))


class TestMending(Case):

    def test_costs(self):
        self.assertEqual(mend(SORT, "ba", [ON, BACK], "ba"), (0, ("ba", (ON, BACK))))
        self.assertEqual(mend(SORT, "ba", [None, None], "ba"), (0, ("ba", (ON, BACK))))
        self.assertEqual(mend(SORT, "ba", [BACK, BACK], "ba"), (1, ("ba", (ON, BACK))))
        self.assertEqual(mend(SORT, "ba", [BACK, ON], "ba"), (2, ("ba", (ON, BACK))))
        self.assertIsNone(mend(SORT, "ba", [ON, BACK], "ab"))
        self.assertIsNone(mend(SORT, "ba", [ON], "bb"))

    def test_the_first_of_equal_costs(self):
        self.assertEqual(mend(SORT, "bab", [(9, "", 9), None], "bab"), (1, ("bab", (ON, BACK))))
        self.assertEqual(mend(SORT, "bab", [(9, "", 9), (1, "R1", 1)], "bab"),
                         (1, ("bab", ((-1, "R1", 1), (1, "R1", 1)))))
        rules = Rules("ab", [("B", "b", "a"), ("A", "b", "a")])
        self.assertEqual(mend(rules, "b", [None, (-1, "A", 0)], "b"), (0, ("b", ((1, "B", 0), (-1, "A", 0)))))
        self.assertEqual(mend(rules, "b", [(1, "A", 0), None], "b"), (0, ("b", ((1, "A", 0), (-1, "B", 0)))))

    def test_entries_that_fit_nowhere_but_equal_no_step(self):
        entries = [(2, "R1", 0), (1, "R9", 0), (1, "R1", -1), None]
        self.assertEqual(mend(SORT, "ba", entries, "ba"), (3, ("ba", (ON, BACK) * 2)))

    def test_a_way_of_6_steps(self):
        row = [(1, "R1", 2), (1, "R1", 0), None, (-1, "R1", 1), ON, None]
        cost, way = mend(SORT, "baba", row, "baba")
        self.assertEqual(way_end(SORT, way), "baba")
        self.assertEqual(cost, sum(entry not in (None, step) for entry, step in zip(row, way[1])))
        self.check(row, cost, way)

    def check(self, row, cost, way):
        ways = ways_between(SORT, "baba", "baba", 6)
        costs = [sum(entry not in (None, step) for entry, step in zip(row, other[1])) for other in ways]
        self.assertEqual((cost, way), (min(costs), ways[costs.index(min(costs))]))
        self.assertTrue(all(fits(SORT, word, step) for word, step in zip(way_words(SORT, way), way[1])))


if __name__ == "__main__":
    unittest.main()
