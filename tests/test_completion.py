"""Points 75 to 78: complete of completion.py."""

import itertools
import random
import unittest

from helpers import Case
from wayfill.completion import complete, is_log, log_rules
from wayfill.down import last_word, normal_way
from wayfill.errors import BadNumber, BoundError, TooLong, TooMany
from wayfill.overlaps import is_complete, list_overlaps
from wayfill.rules import Rules
from wayfill.steps import do_step
from wayfill.ways import leads_to, turn_way
from wayfill.words import compare_words

HUGE = 10 ** 18 - 1


def some_rules(luck, many):
    """Rules with some random sides."""
    words = ["".join(row) for size in range(4) for row in itertools.product("ab", repeat=size)]
    rows = []
    while len(rows) < many:
        left, right = luck.choice(words), luck.choice(words)
        if compare_words("ab", [1, 1], left, right) == 1:
            rows.append((f"R{len(rows)}", left, right))
    return Rules("ab", rows)


class TestExamples(Case):

    def test_one_rule(self):
        rules = Rules("ab", [("R1", "aba", "b")])
        final, log = complete(rules)
        self.assertEqual(log, [("add", "N1", "bba", "abb", ("bba", ((-1, "R1", 0), (1, "R1", 2))))])
        self.assertEqual(final, Rules("ab", [("R1", "aba", "b"), ("N1", "bba", "abb")]))

    def test_two_rules(self):
        final, log = complete(Rules("ab", [("R1", "ab", "a"), ("R2", "ab", "b")]))
        self.assertEqual((final.rows, log[1][4], log[2][:2], log[3][1:]),
                         ([("N1", "b", "a"), ("N2", "aa", "a")], ("aa", ((-1, "N1", 1), (1, "R1", 0))), ("drop", "R2"),
                          ("R1", "ab", "a", ("ab", ((1, "N1", 1), (1, "N2", 0))))))
        self.assertEqual(log[0], ("add", "N1", "b", "a", ("b", ((-1, "R2", 0), (1, "R1", 0)))))

    def test_no_rule_may_be_added(self):
        rules = Rules("ab", [("R1", "aba", "b")])
        self.refuses(TooMany(), complete, rules, most=0)
        self.assertEqual(len(complete(rules, most=1)[1]), 1)


class TestCompletion(Case):

    def test_complete_rules(self):
        for rules in [Rules("ab", []), Rules("a", [("R1", "aa", "a")]), Rules("ab", [("R1", "ba", "ab")])]:
            for most in [0, 6, 8]:
                self.assertEqual(complete(rules, most=most), (rules, []))

    def test_what_holds_for_every_completion(self):
        luck = random.Random(43)
        added = dropped = 0
        for _ in range(120):
            rules = some_rules(luck, luck.choice([1, 2, 2, 3]))
            try:
                final, log = complete(rules)
            except BoundError:
                continue
            self.judges(True, is_complete, final)
            self.judges(True, is_log, rules, log)
            self.assertEqual(log_rules(rules, log), final)
            self.assertEqual((final.letters, final.weights), (rules.letters, rules.weights))
            self.assertEqual((final, log), self.completed(rules))
            added += len([entry for entry in log if entry[0] == "add"])
            dropped += len([entry for entry in log if entry[0] == "drop"])
            for word in ["abab", "bbaa", "babab"]:
                last = last_word(final, word)
                for step in [(1, name, place) for name in rules.names for place in range(5)]:
                    if word.startswith(rules.left_of(step[1]), step[2]):
                        self.assertEqual(last_word(final, do_step(rules, word, step)), last)
        self.assertGreater(min(added, dropped), 50)

    def completed(self, rules):
        """The completion by the words of points 75 to 78, where no bound is met."""
        rows, log = rules.rows, []
        names = [f"N{number}" for number in range(1, 99) if f"N{number}" not in rules.names]
        active = rules
        while not is_complete(active):
            entry = self.added(active, names.pop(0))
            log.append(entry)
            rows = rows + [entry[1:4]]
            active = Rules("ab", rows)
        for row in rows[::-1]:
            others = [other for other in active.rows if other != row]
            if [other for other in others if other[1] in row[1]]:
                active = Rules("ab", others)
                log.append(("drop",) + row + (normal_way(active, row[1], row[2]),))
        return active, log

    def added(self, active, name):
        for word, one, other in list_overlaps(active):
            first, second = [do_step(active, word, step) for step in (one, other)]
            lasts = [last_word(active, first), last_word(active, second)]
            if lasts[0] != lasts[1]:
                up = turn_way(active, normal_way(active, first, lasts[0]))[1]
                down = normal_way(active, second, lasts[1])[1]
                way = lasts[0], up + ((-1,) + one[1:], other) + down
                if compare_words("ab", [1, 1], lasts[0], lasts[1]) == -1:
                    way, lasts = turn_way(active, way), lasts[::-1]
                return "add", name, lasts[0], lasts[1], way
        return None

    def test_the_reason_is_turned_where_the_second_last_word_is_the_greater_one(self):
        final, log = complete(Rules("ab", [("R2", "ab", "b"), ("R1", "ab", "a")]))
        self.assertEqual(log[0], ("add", "N1", "b", "a", ("b", ((-1, "R2", 0), (1, "R1", 0)))))
        final, log = complete(Rules("ab", [("R1", "ab", "a"), ("R2", "ab", "b")], weights=[2, 1]))
        self.assertEqual(log[0], ("add", "N1", "a", "b", ("a", ((-1, "R1", 0), (1, "R2", 0)))))

    def test_reasons_with_steps_down_on_both_sides(self):
        rules = Rules("abcd", [("X", "ab", "cc"), ("Y", "ab", "dd"), ("C", "c", "")], weights=[9, 9, 4, 3])
        final, log = complete(rules)
        self.assertEqual(log[0], ("add", "N1", "dd", "", ("dd", ((-1, "Y", 0), (1, "X", 0), (1, "C", 0), (1, "C", 0)))))

    def test_names(self):
        rows = [("N1", "ab", "a"), ("N3", "ab", "b"), ("R", "bbb", "aaa")]
        final, log = complete(Rules("ab", rows))
        self.assertEqual([entry[1] for entry in log if entry[0] == "add"], ["N2", "N4", "N5"])
        rows = [("N2", "ab", "a"), ("N01", "ab", "b")]
        final, log = complete(Rules("ab", rows))
        self.assertEqual([entry[1] for entry in log if entry[0] == "add"], ["N1", "N3"])

    def test_dropped_from_the_last_to_the_first(self):
        # Equal left sides: the later ones leave.
        rules = Rules("ab", [("A", "ab", "a"), ("B", "ab", "a"), ("C", "ab", "a")])
        final, log = complete(rules)
        self.assertEqual(final.names, ["A"])
        self.assertEqual(log, [("drop", "C", "ab", "a", ("ab", ((1, "A", 0),))),
                               ("drop", "B", "ab", "a", ("ab", ((1, "A", 0),)))])

    def test_a_rule_that_was_dropped_drops_no_other_one(self):
        # "aab" has the left side of both others, "ab" has that of the last one alone.
        rules = Rules("ab", [("L", "aab", ""), ("M", "ab", ""), ("S", "a", ""), ("T", "b", "")])
        final, log = complete(rules)
        self.assertEqual([entry[1] for entry in log], ["M", "L"])
        self.assertEqual(final.names, ["S", "T"])
        self.assertEqual(log[0][4], ("ab", ((1, "S", 0), (1, "T", 0))))
        rules = Rules("ab", [("S", "a", ""), ("M", "aa", ""), ("L", "aaa", "")])
        final, log = complete(rules)
        self.assertEqual([entry[1] for entry in log], ["L", "M"])
        # The reason is over the rules that are left: M is earlier than S there, but L is gone down by S first.
        self.assertEqual(log[0][4], ("aaa", ((1, "S", 0), (1, "S", 0), (1, "S", 0))))

    def test_a_reason_uses_rules_that_are_dropped_later(self):
        rules = Rules("ab", [("M", "aa", ""), ("L", "aaa", "a"), ("S", "a", "")])
        final, log = complete(rules)
        self.assertEqual([entry[1] for entry in log], ["L", "M"])
        self.assertEqual(log[0][4], ("aaa", ((1, "M", 0), (1, "S", 0), (-1, "S", 0))))
        self.assertTrue(leads_to(Rules("ab", [("M", "aa", ""), ("S", "a", "")]), log[0][4], "aaa", "a"))

    def test_dropping_without_any_rule_added(self):
        final, log = complete(Rules("ab", [("A", "ab", "a"), ("B", "aab", "aa")]), most=0)
        self.assertEqual((final.names, [entry[:2] for entry in log]), (["A"], [("drop", "B")]))


class TestBounds(Case):

    def test_most_out_of_range(self):
        rules = Rules("ab", [("R1", "ba", "ab")])
        for most in [-1, 9, HUGE, -HUGE]:
            self.refuses(BadNumber(most), complete, rules, most=most)
        rows = [(f"A{at}", "a" * 8, "") for at in range(8)]
        self.refuses(BadNumber(9), complete, Rules("ab", rows), most=9)
        self.refuses(TooMany(), complete, Rules("ab", rows), most=8)

    def test_how_many_are_added(self):
        for left, many in [("aba", 2), ("aaba", 3), ("abaa", 4), ("baaba", 5), ("abaab", 6), ("abaaa", 8)]:
            rules = Rules("ab", [("R1", left, "")])
            final, log = complete(rules, most=many)
            self.assertEqual([entry[1] for entry in log if entry[0] == "add"], [f"N{at + 1}" for at in range(many)])
            self.assertEqual(complete(rules, most=8), (final, log))
            for most in range(many):
                self.refuses(TooMany(), complete, rules, most=most)

    def test_the_default_is_6(self):
        six = Rules("ab", [("R1", "abaab", "")])
        self.assertEqual(complete(six), complete(six, most=6))
        seven = Rules("ab", [("R1", "ababa", ""), ("R2", "baabaa", "b")])
        self.assertEqual([entry[1] for entry in complete(seven, most=7)[1] if entry[0] == "add"][-1], "N7")
        self.refuses(TooMany(), complete, seven)
        self.refuses(TooMany(), complete, seven, most=6)

    def test_12_active_rules(self):
        rows = [("R1", "ab", "a"), ("R2", "ab", "b")]
        further = [("C", "c", ""), ("D", "d", ""), ("E", "e", ""), ("F", "f", ""), ("CC", "cd", ""), ("DD", "de", ""),
                   ("EE", "ef", ""), ("FF", "fc", ""), ("CE", "ce", ""), ("DF", "df", "")]
        for many, right in [(8, True), (9, False), (10, False)]:
            rules = Rules("abcdef", rows + further[:many])
            if right:
                final, log = complete(rules)
                self.assertEqual([entry[:2] for entry in log[:2]], [("add", "N1"), ("add", "N2")])
            else:
                self.refuses(TooMany(), complete, rules)
        self.assertEqual(len(rows + further[:10]), 12)

    def test_a_side_of_9_letters(self):
        for many, right in [(8, True), (9, False)]:
            # The last words of the two results are so many letters b, and c.
            rows = [("X", "ad", "e"), ("Y", "ad", "c"), ("E", "e", "f" + "b" * 5), ("F", "f", "b" * (many - 5))]
            rules = Rules("abcdef", rows, weights=[99, 1, 1, 99, 20, 9])
            if right:
                self.assertEqual(complete(rules)[1][0][1:4], ("N1", "b" * 8, "c"))
            else:
                self.refuses(TooLong(), complete, rules)
                # TooMany comes before.
                self.refuses(TooMany(), complete, rules, most=0)
                more = [(f"Z{at}", "a" * (at + 1), "") for at in range(8)]
                self.refuses(TooMany(), complete, Rules("abcdef", rows + more, weights=[99, 1, 1, 99, 20, 9]))

    def stairs(self, *rows):
        """Rules with more of them, by which 15 steps go down from one letter b and 14 from one letter c."""
        further = [("C", "c", "dee"), ("B", "b", "dd"), ("D", "d", "ee"), ("E", "e", "ff"), ("F", "f", "")]
        return Rules("abcdef", list(rows) + further, weights=[99, 15, 14, 7, 3, 1])

    def test_a_reason_of_120_and_121_steps(self):
        # Two steps of the reason are those of the overlap; 59 or 60 and 59 steps go down.
        final, log = complete(self.stairs(("X", "aa", "bbbc"), ("Y", "aa", "abbbc")))
        self.assertEqual((log[0][:4], len(log[0][4][1])), (("add", "N1", "a", ""), 120))
        rules = self.stairs(("X", "aa", "bbbb"), ("Y", "aa", "abbbc"))
        self.refuses(TooLong(), complete, rules)
        self.refuses(TooMany(), complete, rules, most=0)

    def test_a_reason_for_dropping_of_120_and_121_steps(self):
        final, log = complete(self.stairs(("X", "aa", "b" * 6 + "cc"), ("A", "a", "")))
        self.assertEqual((log[0][:4], len(log[0][4][1])), (("drop", "X", "aa", "b" * 6 + "cc"), 120))
        self.refuses(TooLong(), complete, self.stairs(("X", "aa", "b" * 7 + "c"), ("A", "a", "")))

    def test_more_than_200_overlaps(self):
        rows = [(f"A{at}", "a" * 8, "") for at in range(5)] + [("B1", "b" * 5, ""), ("B2", "b" * 4, "")]
        self.refuses(TooMany(), complete, Rules("abc", rows + [("C", "cc", "")]))

    def test_errors_of_going_down(self):
        rows = [("R1", "ab", "a"), ("R2", "ab", "b")]
        grow = [("G", "dc", "c" * 8), ("H", "c", "b" * 8), ("I", "dc", "")]
        rules = Rules("abcd", grow + rows, weights=[1, 1, 9, 99])
        self.refuses(TooLong(), complete, rules, most=0)
        rules = Rules("abcd", rows + grow, weights=[1, 1, 9, 99])
        self.refuses(TooMany(), complete, rules, most=0)


if __name__ == "__main__":
    unittest.main()
