"""Points 91 to 93: translations.py."""

import itertools
import random
import unittest

from helpers import Case
from wayfill.carrying import write_out
from wayfill.completion import complete
from wayfill.down import normal_way, same_last
from wayfill.errors import BadLetters, BadTranslation, TooLong, Unjoined, Unknown
from wayfill.overlaps import is_complete
from wayfill.rules import Rules
from wayfill.steps import steps_at
from wayfill.translations import both_translations, find_translation, is_translation, translate_way
from wayfill.ways import is_way, way_end, way_words

SOURCE = Rules("ab", [("R1", "ba", "ab"), ("R2", "aab", "b"), ("R3", "bb", "")])
TARGET = Rules("ab", [("T1", "aa", ""), ("T2", "bb", ""), ("R1", "ba", "ab")], weights=[2, 3])
ROWS = [("R1", ("ba", ((1, "R1", 0),))), ("R2", ("aab", ((1, "T1", 0),))), ("R3", ("bb", ((1, "T2", 0),)))]
# Under these the word bbbbb is too long to go down from.
GROWING = Rules("ab", [("T1", "b", "aaaaaaaa")], weights=[1, 99])
SIDES = [("R1", "b", "a"), ("R2", "bb", "a")]
MEETING = Rules("ab", [("T1", "b", "a"), ("T2", "aa", "a")])
# The way of R1 is three steps long and its longest word has one letter more than its sides.
THREE = [("R1", ("b", ((-1, "T3", 0), (1, "T3", 0), (1, "T1", 0)))), ("R2", ("bb", ((1, "T3", 0), (1, "T1", 0))))]
LOOPING = Rules("ab", [("T1", "b", "a"), ("T3", "bb", "b")])


def translated(source, target, rows, way):
    """The translated way, step by step through whole words, or None if it is too long somewhere."""
    ways = dict(rows)
    steps = []
    for word, (sign, name, place) in zip(way_words(source, way), way[1]):
        inner = ways[name][1]
        if sign == -1:
            inner = [(-turned, rule, at) for turned, rule, at in reversed(inner)]
        steps.extend((turned, rule, place + at) for turned, rule, at in inner)
    result = (way[0], tuple(steps))
    return result if is_way(target, result) else None


class TestFinding(Case):

    def test_the_normal_ways(self):
        self.assertEqual(find_translation(SOURCE, TARGET),
                         [("R1", normal_way(TARGET, "ba", "ab")), ("R2", normal_way(TARGET, "aab", "b")),
                          ("R3", normal_way(TARGET, "bb", ""))])
        self.assertEqual(find_translation(SOURCE, TARGET)[2], ("R3", ("bb", ((1, "T2", 0),))))

    def test_the_ways_of_rules_to_themselves(self):
        rules = Rules("ab", [("A", "bb", "ab"), ("B", "ab", "")])
        self.assertEqual(find_translation(rules, rules),
                         [("A", ("bb", ((1, "A", 0), (1, "B", 0), (-1, "B", 0)))), ("B", ("ab", ((1, "B", 0),)))])

    def test_no_source_rules(self):
        self.assertEqual(find_translation(Rules("ab", []), TARGET), [])
        self.assertEqual(find_translation(Rules("ab", []), Rules("ab", [])), [])
        self.refuses(Unjoined("b", "a"), find_translation, Rules("ab", SIDES), Rules("ab", []))

    def test_the_error_of_the_first_source_rule_that_raises_one(self):
        wrong = [("R2", "bbbbb", "a"), ("R3", "bb", "b")]
        right = ("R1", "b", "aaaaaaaa")
        for rows, error in [(wrong, TooLong()), (wrong[::-1], Unjoined("a" * 16, "a" * 8))]:
            for at in range(3):
                source = Rules("ab", rows[:at] + [right] + rows[at:], weights=[1, 99])
                self.refuses(error, find_translation, source, GROWING)

    def test_an_error_although_another_way_would_do(self):
        source = Rules("ab", [("R1", "bb", "ab")])
        target = Rules("ab", [("T1", "b", ""), ("T2", "bb", "ab")])
        self.assertTrue(is_translation(source, target, [("R1", ("bb", ((1, "T2", 0),)))]))
        self.refuses(Unjoined("", "a"), find_translation, source, target)

    def test_alphabets_that_differ(self):
        for letters in ["ba", "a", "abc", "ac"]:
            target = Rules(letters, [])
            self.refuses(BadLetters(letters), find_translation, SOURCE, target)
            self.refuses(BadLetters("ab"), find_translation, target, SOURCE)
            self.refuses(BadLetters(letters), both_translations, SOURCE, target)
            self.refuses(BadLetters("ab"), both_translations, target, SOURCE)
            self.refuses(BadLetters(letters), translate_way, SOURCE, target, ROWS, ("", ()))
            self.refuses(BadLetters(letters), translate_way, SOURCE, target, [("?", ("?", ()))], ("?", ()))
            self.judges(False, is_translation, SOURCE, target, [])
            self.judges(False, is_translation, Rules(letters, []), SOURCE, [])
            self.judges(False, is_translation, Rules("ab", []), target, [])

    def test_weights_that_differ(self):
        heavy = Rules("ab", SOURCE.rows, weights=[9, 9])
        self.assertEqual(find_translation(heavy, TARGET), find_translation(SOURCE, TARGET))
        self.judges(True, is_translation, heavy, TARGET, ROWS)


class TestJudging(Case):

    def test_right_rows(self):
        self.judges(True, is_translation, SOURCE, TARGET, ROWS)
        self.judges(True, is_translation, SOURCE, TARGET, find_translation(SOURCE, TARGET))
        self.judges(True, is_translation, Rules("ab", []), TARGET, [])
        self.judges(True, is_translation, Rules("ab", SIDES), LOOPING, THREE)

    def test_wrong_lists(self):
        wrong = [[], ROWS[:2], ROWS[1:], ROWS + [ROWS[2]], ROWS + [("R4", ("ba", ()))], ROWS[::-1],
                 [ROWS[1], ROWS[0], ROWS[2]], [ROWS[0], ROWS[0], ROWS[2]]]
        for rows in wrong:
            self.judges(False, is_translation, SOURCE, TARGET, rows)
            self.refuses(BadTranslation(), translate_way, SOURCE, TARGET, rows, ("", ()))
        self.judges(False, is_translation, Rules("ab", []), TARGET, ROWS)

    def test_wrong_rows(self):
        way = ROWS[1][1]
        wrong = [("R4", way), ("r2", way), ("", way), ("T1", way), ("R2", ("aab", ())), ("R2", ("b", ())),
                 ("R2", ("b", ((-1, "T1", 0),))), ("R2", ("aab", ((1, "T1", 1),))), ("R2", ("aab", ((1, "R2", 0),))),
                 ("R2", ("aabb", ((1, "T1", 0),))), ("R2", ("?", ())), ("R2", ("aab", way[1] + ((-1, "T1", 0),))),
                 ("R2", ("aab", way[1] + ((-1, "T1", 0), (1, "T1", 0)) * 60))]
        for row in wrong:
            for at in range(3):
                rows = [ROWS[0], row, ROWS[2]]
                self.judges(False, is_translation, SOURCE, TARGET, rows)
                self.refuses(BadTranslation(), translate_way, SOURCE, TARGET, rows, ("ba", ()))
        for at in range(3):
            rows = ROWS[:at] + [(ROWS[at][0], ("", ()))] + ROWS[at + 1:]
            self.judges(False, is_translation, SOURCE, TARGET, rows)
        long = ("R2", ("aab", way[1] + ((-1, "T1", 0), (1, "T1", 0)) * 59))
        self.judges(True, is_translation, SOURCE, TARGET, [ROWS[0], long, ROWS[2]])

    def test_rows_before_the_way(self):
        self.refuses(BadTranslation(), translate_way, SOURCE, TARGET, ROWS[:2], ("?", ()))
        self.refuses(Unknown("T1"), translate_way, SOURCE, TARGET, ROWS, ("aa", ((1, "T1", 0),)))


class TestTranslating(Case):

    def test_steps_on_and_back(self):
        source = Rules("ab", SIDES)
        self.assertEqual(translate_way(source, LOOPING, THREE, ("ab", ((1, "R1", 1), (-1, "R2", 0)))),
                         ("ab", ((-1, "T3", 1), (1, "T3", 1), (1, "T1", 1), (-1, "T1", 0), (-1, "T3", 0))))
        self.assertEqual(translate_way(source, LOOPING, THREE, ("ab", ())), ("ab", ()))

    def test_names_that_both_rules_have_are_replaced_once(self):
        source = Rules("ab", [("A", "b", "a"), ("B", "bb", "a")])
        target = Rules("ab", [("B", "b", "a"), ("A", "ab", "a")])
        rows = [("A", ("b", ((1, "B", 0),))), ("B", ("bb", ((1, "B", 0), (1, "A", 0))))]
        self.assertEqual(translate_way(source, target, rows, ("bbb", ((1, "B", 1), (1, "A", 0)))),
                         ("bbb", ((1, "B", 1), (1, "A", 1), (1, "B", 0))))

    def test_a_way_over_rules_without_rules(self):
        self.assertEqual(translate_way(Rules("ab", []), TARGET, [], ("ab", ())), ("ab", ()))

    def test_120_and_121_steps(self):
        source = Rules("ab", SIDES)
        back_and_forth = ((1, "R1", 0), (-1, "R1", 0)) * 20
        way = translate_way(source, LOOPING, THREE, ("bb", back_and_forth))
        self.assertEqual(len(way[1]), 120)
        self.refuses(TooLong(), translate_way, source, LOOPING, THREE, ("bb", back_and_forth + ((1, "R2", 0),)))
        single = Rules("ab", SIDES + [("R4", "bb", "ab")])
        rows = THREE + [("R4", ("bb", ((1, "T1", 0),)))]
        steps = back_and_forth[:38] + ((1, "R4", 0), (-1, "R4", 0)) * 3
        self.assertEqual(len(translate_way(single, LOOPING, rows, ("bb", steps))[1]), 120)
        self.refuses(TooLong(), translate_way, single, LOOPING, rows, ("bb", steps + ((1, "R4", 0),)))
        self.refuses(TooLong(), translate_way, source, LOOPING, THREE, ("bb", back_and_forth * 3))

    def test_32_and_33_letters(self):
        source = Rules("ab", SIDES)
        for size in [31, 32]:
            for way in [("b" * size, ((1, "R1", 3),)), ("a" * size, ((-1, "R1", size - 1),))]:
                if size == 31:
                    words = way_words(LOOPING, translate_way(source, LOOPING, THREE, way))
                    self.assertEqual(max(len(word) for word in words), 32)
                else:
                    self.refuses(TooLong(), translate_way, source, LOOPING, THREE, way)
        way = ("b" * 32, ((1, "R2", 0),))
        self.assertEqual(way_end(LOOPING, translate_way(source, LOOPING, THREE, way)), "a" + "b" * 30)

    def test_random_ways(self):
        luck = random.Random(5)
        source = Rules("ab", SIDES)
        for _ in range(300):
            words = [luck.choice(["abba", "b" * 31, "ab" * 16, "a", "bbb"])]
            steps = []
            for _ in range(luck.choice([1, 5, 60])):
                sign, name = luck.choice([1, -1]), luck.choice(["R1", "R2"])
                fitting = [step for step in steps_at(source, words[-1]) if step[:2] == (sign, name)]
                if fitting:
                    steps.append(luck.choice(fitting))
                    words.append(way_end(source, (words[-1], (steps[-1],))))
            way = words[0], tuple(steps)
            expected = translated(source, LOOPING, THREE, way)
            if expected is None:
                self.refuses(TooLong(), translate_way, source, LOOPING, THREE, way)
            else:
                self.assertEqual(translate_way(source, LOOPING, THREE, way), expected)
                self.assertEqual(way_end(LOOPING, expected), words[-1])


class TestBoth(Case):

    def test_none_raises(self):
        other = Rules("ab", [("A", "bb", ""), ("B", "ba", "ab"), ("C", "aa", "")])
        self.assertEqual(both_translations(SOURCE, SOURCE),
                         (find_translation(SOURCE, SOURCE), find_translation(SOURCE, SOURCE)))
        there, back = both_translations(TARGET, other)
        self.assertEqual((there, back), (find_translation(TARGET, other), find_translation(other, TARGET)))
        self.assertNotEqual(there, back)

    def test_the_first_or_the_second_raises_unjoined(self):
        none = Rules("ab", [])
        self.assertIsNone(both_translations(none, MEETING))
        self.assertIsNone(both_translations(MEETING, none))

    def test_another_error_in_the_first_or_the_second(self):
        wide = Rules("ab", [("R2", "bbbbb", "a")], weights=[1, 99])
        self.refuses(TooLong(), both_translations, wide, GROWING)
        same = Rules("ab", GROWING.rows + wide.rows, weights=[1, 99])
        self.assertEqual(len(find_translation(GROWING, same)), 1)
        self.refuses(TooLong(), both_translations, GROWING, same)
        self.refuses(TooLong(), both_translations, same, GROWING)

    def test_the_second_one_is_not_looked_for(self):
        # From the first to the second the last words differ; the other way going down is too long.
        first = Rules("ab", [("T1", "b", "aaaaaaaa"), ("T2", "aa", "a")], weights=[1, 99])
        second = Rules("ab", [("R2", "bbbbb", "bbbb")], weights=[1, 99])
        self.refuses(TooLong(), find_translation, Rules("ab", second.rows, weights=[1, 99]), GROWING)
        self.refuses(Unjoined("b", "aaaaaaaa"), find_translation, GROWING, second)
        self.assertIsNone(both_translations(GROWING, second))
        self.refuses(TooLong(), both_translations, second, GROWING)
        self.refuses(Unjoined("b", "aaaaaaaa"), find_translation, first, second)


class TestClasses(Case):

    WORDS = ["".join(word) for size in range(5) for word in itertools.product("ab", repeat=size)]

    def same_classes(self, one, other):
        """Whether the last words under complete rules put the same short words together."""
        pairs = list(itertools.combinations(self.WORDS, 2))
        return all(same_last(one, first, second) == same_last(other, first, second) for first, second in pairs)

    def test_complete_rules_with_the_same_classes_have_translations_in_each_direction(self):
        samples = [TARGET, MEETING, Rules("ab", []), Rules("ab", [("A", "b", "a"), ("B", "aa", "a")], weights=[2, 2]),
                   Rules("ab", [("A", "bb", ""), ("B", "ba", "ab"), ("C", "aa", "")]), Rules("ab", [("A", "b", "a")]),
                   Rules("ab", [("A", "a", ""), ("B", "b", "")]), Rules("ab", [("A", "ba", "ab")]),
                   Rules("ab", [("A", "a", "b"), ("B", "bb", "b")], weights=[2, 1])]
        found = 0
        for one, other in itertools.product(samples, samples):
            self.assertTrue(is_complete(one))
            both = both_translations(one, other)
            self.assertEqual(both is not None, self.same_classes(one, other))
            found += both is not None
        self.assertGreater(found, len(samples))

    def test_first_and_final_rules_of_a_completion(self):
        first = Rules("ab", [("R1", "ab", "a"), ("R2", "ab", "b")])
        final, log = complete(first)
        there = find_translation(first, final)
        self.assertTrue(is_translation(first, final, there))
        back = [(name, write_out(first, log, (left, ((1, name, 0),)))) for name, left, right in final]
        self.assertTrue(is_translation(final, first, back))
        # The first rules are not complete, so a translation may be there without being found.
        self.refuses(Unjoined("b", "a"), find_translation, final, first)
        self.assertIsNone(both_translations(first, final))
        way = ("aab", ((1, "R2", 1), (-1, "R1", 0)))
        self.refuses(Unknown("R2"), translate_way, final, first, back, way)
        away = translate_way(first, final, there, ("aab", ((1, "R2", 1),)))
        self.assertEqual(way_end(final, away), "ab")
        home = translate_way(final, first, back, away)
        self.assertEqual((home[0], way_end(first, home)), ("aab", "ab"))


if __name__ == "__main__":
    unittest.main()
