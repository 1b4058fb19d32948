"""Points 85 to 90: changes.py."""

import random
import unittest

from helpers import Case
from test_fill import some_way
from wayfill.changes import bring_along, bring_squares, bring_way, bring_word, can_change, carry_along, carry_way
from wayfill.changes import carry_word, change_all, change_rules, change_squares, opposite
from wayfill.errors import BadChange, BadSquare, BadStep, BadWord, Repeated, TooLong, TooMany, Unknown
from wayfill.rules import Rules
from wayfill.squares import check_squares, plain_squares
from wayfill.ways import check_way, join_ways, turn_way, way_end, way_words

RULES = Rules("abc", [("R1", "ba", "ab"), ("C", "c", "ab"), ("E", "aa", "")], weights=[2, 3, 5])
HUGE = 10 ** 18 - 1

ADD_LETTER = ("add letter", "d", 9, "ba", "D")
DROP_LETTER = ("drop letter", "c")
ADD_RULE = ("add rule", "N", "bba", "abb", ("bba", ((1, "R1", 1), (1, "R1", 0))))
DROP_RULE = ("drop rule", "B", ("baa", ((1, "R1", 0), (1, "R1", 1), (1, "E", 0))))
WITH_B = Rules("abc", [("R1", "ba", "ab"), ("B", "baa", "b"), ("E", "aa", "")], weights=[2, 3, 5])

CHANGES = [(RULES, ADD_LETTER), (RULES, DROP_LETTER), (RULES, ADD_RULE), (WITH_B, DROP_RULE)]
WRONG = [("?", ("?", ((7, "?", -1),)), ("", ()))]

# All functions that take a change, with further arguments that are wrong as well.
TAKERS = [change_rules, opposite, lambda rules, change: carry_word(rules, change, "?"),
          lambda rules, change: bring_word(rules, change, "?" * 40),
          lambda rules, change: carry_way(rules, change, WRONG[0][1]),
          lambda rules, change: bring_way(rules, change, WRONG[0][1]),
          lambda rules, change: change_squares(rules, change, WRONG * 41),
          lambda rules, change: bring_squares(rules, change, WRONG)]


def rules_of(many, letters="ab"):
    return Rules(letters, [(f"R{at}", "ab", "a") for at in range(many)])


class ChangeCase(Case):

    def done(self, rules, change, expected):
        self.judges(True, can_change, rules, change)
        self.assertEqual(change_rules(rules, change), expected)
        self.assertEqual(change_all(rules, [change]), expected)
        back = opposite(rules, change)
        self.judges(True, can_change, expected, back)
        return back

    def refused(self, rules, change):
        self.judges(False, can_change, rules, change)
        for call in TAKERS:
            self.refuses(BadChange(0), call, rules, change)
        self.refuses(BadChange(0), change_all, rules, [change])


class TestAddingLetters(ChangeCase):

    def test_the_rule_and_the_letter_come_last(self):
        expected = Rules("abcd", RULES.rows + [("D", "d", "ba")], weights=[2, 3, 5, 9])
        self.assertEqual(self.done(RULES, ADD_LETTER, expected), ("drop letter", "d"))

    def test_the_greater_side_is_the_left_one(self):
        for weight, row in [(4, ("D", "ba", "d")), (5, ("D", "d", "ba")), (6, ("D", "d", "ba")), (1, ("D", "ba", "d")),
                            (99, ("D", "d", "ba"))]:
            expected = Rules("abcd", RULES.rows + [row], weights=[2, 3, 5, weight])
            self.done(RULES, ("add letter", "d", weight, "ba", "D"), expected)
        self.done(RULES, ("add letter", "z", 1, "", "D"),
                  Rules("abcz", RULES.rows + [("D", "z", "")], weights=[2, 3, 5, 1]))
        # The letters are in the order in which they were added.
        rules = Rules("ba", [("R1", "ab", "ba")])
        self.done(rules, ("add letter", "c", 1, "a", "D"), Rules("bac", rules.rows + [("D", "c", "a")]))

    def test_letters(self):
        for letter in ["", "a", "c", "A", "1", "-", "de", "da", " ", "~"]:
            self.refused(RULES, ("add letter", letter, 9, "ba", "D"))

    def test_5_and_6_letters(self):
        five = Rules("abcde", [])
        self.done(five, ("add letter", "f", 1, "a", "D"), Rules("abcdef", [("D", "f", "a")]))
        self.refused(Rules("abcdef", []), ("add letter", "g", 1, "a", "D"))

    def test_weights(self):
        for weight in [0, -1, 100, HUGE, -HUGE]:
            self.refused(RULES, ("add letter", "d", weight, "ba", "D"))
        for weight in [1, 99]:
            self.judges(True, can_change, RULES, ("add letter", "d", weight, "ba", "D"))

    def test_words(self):
        self.judges(True, can_change, RULES, ("add letter", "d", 9, "ab" * 4, "D"))
        for word in ["ab" * 4 + "a", "d", "bad", "x", "?", "a" * 33]:
            self.refused(RULES, ("add letter", "d", 9, word, "D"))

    def test_names(self):
        for name in ["", "d", "1D", "D" * 9, "R1", "C", "E", "?"]:
            self.refused(RULES, ("add letter", "d", 9, "ba", name))

    def test_11_and_12_rules(self):
        self.assertEqual(len(change_rules(rules_of(11), ("add letter", "c", 9, "ba", "D"))), 12)
        self.refused(rules_of(12), ("add letter", "c", 9, "ba", "D"))


class TestDroppingLetters(ChangeCase):

    def test_the_letter_and_its_rule(self):
        expected = Rules("ab", [("R1", "ba", "ab"), ("E", "aa", "")], weights=[2, 3])
        self.assertEqual(self.done(RULES, DROP_LETTER, expected), ("add letter", "c", 5, "ab", "C"))

    def test_the_letter_on_the_right_side(self):
        rules = Rules("abc", [("R1", "ba", "ab"), ("C", "bb", "c")], weights=[2, 9, 5])
        back = self.done(rules, DROP_LETTER, Rules("ab", [("R1", "ba", "ab")], weights=[2, 9]))
        self.assertEqual(back, ("add letter", "c", 5, "bb", "C"))

    def test_in_the_middle_of_the_alphabet(self):
        rules = Rules("acb", [("C", "c", ""), ("R1", "ba", "ab")], weights=[2, 7, 9])
        back = self.done(rules, DROP_LETTER, Rules("ab", [("R1", "ba", "ab")], weights=[2, 9]))
        self.assertEqual(back, ("add letter", "c", 7, "", "C"))
        # It comes back as the last one.
        self.assertEqual(change_rules(change_rules(rules, DROP_LETTER), back),
                         Rules("abc", [("R1", "ba", "ab"), ("C", "c", "")], weights=[2, 9, 7]))

    def test_letters(self):
        for letter in ["", "d", "ab", "bc", "C", "?"]:
            self.refused(RULES, ("drop letter", letter))
        self.refused(Rules("abc", [("X", "ab", "c")]), ("drop letter", "ab"))
        self.refused(Rules("abc", [("X", "ab", "")]), ("drop letter", "ab"))
        self.refused(Rules("abc", [("X", "ab", "")]), ("drop letter", ""))
        # In more than one rule, or not alone.
        self.refused(RULES, ("drop letter", "a"))
        self.refused(RULES, ("drop letter", "b"))

    def test_one_and_two_letters(self):
        self.refused(Rules("a", [("A", "a", "")]), ("drop letter", "a"))
        self.done(Rules("ab", [("A", "a", "")]), ("drop letter", "a"), Rules("b", []))

    def test_the_sides(self):
        self.refused(Rules("ab", []), ("drop letter", "b"))
        self.refused(Rules("ab", [("R1", "a", "")]), ("drop letter", "b"))
        self.refused(Rules("ab", [("R1", "b", ""), ("R2", "bb", "a")]), ("drop letter", "b"))
        self.refused(Rules("ab", [("R1", "b", ""), ("R2", "aa", "b")]), ("drop letter", "b"))
        self.refused(Rules("ab", [("R1", "bb", "b")]), ("drop letter", "b"))
        self.refused(Rules("ab", [("R1", "ab", "b")]), ("drop letter", "b"))
        self.refused(Rules("ab", [("R1", "bb", "")]), ("drop letter", "b"))
        self.refused(Rules("ab", [("R1", "aa", "ba")], weights=[2, 1]), ("drop letter", "b"))
        self.done(Rules("ab", [("R1", "b", "aa")], weights=[1, 9]), ("drop letter", "b"), Rules("a", []))
        self.done(Rules("ab", [("R1", "aaaaaaaa", "b")]), ("drop letter", "b"), Rules("a", []))


class TestAddingRules(ChangeCase):

    def test_the_rule_comes_last(self):
        back = self.done(RULES, ADD_RULE, Rules("abc", RULES.rows + [("N", "bba", "abb")], weights=[2, 3, 5]))
        self.assertEqual(back, ("drop rule", "N", ADD_RULE[4]))

    def test_names(self):
        for name in ["", "n", "1N", "N" * 9, "R1", "C", "?"]:
            self.refused(RULES, ADD_RULE[:1] + (name,) + ADD_RULE[2:])

    def test_11_and_12_rules(self):
        change = ("add rule", "N", "ab", "a", ("ab", ((1, "R0", 0),)))
        self.assertEqual(len(change_rules(rules_of(11), change)), 12)
        self.refused(rules_of(12), change)

    def test_sides(self):
        rules = Rules("ab", [("A", "a", "")])
        out = (1, "A", 0)
        self.judges(True, can_change, rules, ("add rule", "N", "a" * 8, "", ("a" * 8, (out,) * 8)))
        self.refused(rules, ("add rule", "N", "a" * 9, "", ("a" * 9, (out,) * 9)))
        self.refused(rules, ("add rule", "N", "a" * 10, "a" * 9, ("a" * 10, (out,))))
        self.refused(rules, ("add rule", "N", "ac", "c", ("ac", (out,))))
        # The left side is not greater.
        self.refused(rules, ("add rule", "N", "a", "a", ("a", ())))
        self.refused(rules, ("add rule", "N", "", "a", ("", ((-1, "A", 0),))))
        self.refused(rules, ("add rule", "N", "ab", "ba", ("ab", (out, (-1, "A", 1)))))
        self.judges(True, can_change, rules, ("add rule", "N", "ba", "ab", ("ba", ((1, "A", 1), (-1, "A", 0)))))

    def test_the_way(self):
        for way in [("bba", ()), ("abb", ()), ("bba", ((1, "R1", 1),)), ("bba", ((1, "N", 0),)), ("?", ()),
                    ("abb", ((-1, "R1", 0), (-1, "R1", 1))), ("bba", ADD_RULE[4][1] + ((-1, "R1", 0),)),
                    ("bba", ((1, "R1", 1), (-1, "R1", 1)) * 60 + ADD_RULE[4][1])]:
            self.refused(RULES, ADD_RULE[:4] + (way,))
        longer = ("bba", ((1, "R1", 1), (-1, "R1", 1)) * 59 + ADD_RULE[4][1])
        self.judges(True, can_change, RULES, ADD_RULE[:4] + (longer,))


class TestDroppingRules(ChangeCase):

    def test_the_rule_is_taken_out(self):
        back = self.done(WITH_B, DROP_RULE, Rules("abc", [("R1", "ba", "ab"), ("E", "aa", "")], weights=[2, 3, 5]))
        self.assertEqual(back, ("add rule", "B", "baa", "b", DROP_RULE[2]))
        # It comes back as the last one.
        self.assertEqual(change_all(WITH_B, [DROP_RULE, back]).names, ["R1", "E", "B"])

    def test_names(self):
        for name in ["", "D", "b", "?"]:
            self.refused(WITH_B, ("drop rule", name, DROP_RULE[2]))
        self.refused(WITH_B, ("drop rule", "E", DROP_RULE[2]))

    def test_the_way(self):
        for way in [("baa", ((1, "B", 0),)), ("baa", ()), ("b", ()), ("baa", ((1, "R1", 0),)), ("baa", ((1, "D", 0),)),
                    turn_way(WITH_B, DROP_RULE[2]), ("?", ()), ("baa", DROP_RULE[2][1] + ((-1, "E", 0),)),
                    ("baa", ((1, "B", 0), (-1, "B", 0)) + DROP_RULE[2][1]),
                    ("baa", ((1, "R1", 0), (-1, "R1", 0)) * 59 + DROP_RULE[2][1])]:
            self.refused(WITH_B, ("drop rule", "B", way))
        self.judges(True, can_change, WITH_B,
                    ("drop rule", "B", ("baa", ((1, "R1", 0), (-1, "R1", 0)) * 58 + DROP_RULE[2][1])))


class TestOtherKinds(ChangeCase):

    def test_they_name_no_kind(self):
        for change in [("", "d"), ("add", "d"), ("Add rule", "N"), ("drop", "R1"), ("drop  letter", "c"), ("?",),
                       ("change", "a", "b", "c", "d", "e"), ("add letters", "d", 9, "ba", "D")]:
            self.refused(RULES, change)


class TestOpposites(ChangeCase):

    def test_the_opposite_of_the_opposite(self):
        for rules, change in CHANGES:
            changed = change_rules(rules, change)
            back = opposite(rules, change)
            again = opposite(changed, back)
            self.assertEqual(again, change)
            restored = change_rules(changed, back)
            self.assertEqual(sorted(restored.rows), sorted(rules.rows))
            self.assertEqual(sorted(zip(restored.letters, restored.weights)), sorted(zip(rules.letters, rules.weights)))

    def test_sides_that_are_exchanged_where_the_weights_tie(self):
        rules = Rules("ab", [("R", "b", "a")])
        back = opposite(rules, ("drop letter", "a"))
        self.assertEqual(back, ("add letter", "a", 1, "b", "R"))
        self.assertEqual(change_all(rules, [("drop letter", "a"), back]), Rules("ba", [("R", "a", "b")]))
        self.assertEqual(opposite(Rules("ba", [("R", "a", "b")]), ("drop letter", "a")), back)


class TestImages(ChangeCase):

    # The word of z is "ab".
    RULES = Rules("abz", [("R1", "ba", "ab"), ("Z", "z", "ab"), ("E", "aa", "")], weights=[1, 1, 3])
    DROP = ("drop letter", "z")

    def test_words(self):
        for word, image in [("", ""), ("z", "ab"), ("zz", "abab"), ("azbz", "aabbab"), ("ab", "ab")]:
            self.assertEqual(carry_word(self.RULES, self.DROP, word), image)

    def test_the_letter_on_the_left_and_on_the_right_of_an_input(self):
        self.assertEqual(carry_way(self.RULES, self.DROP, ("zbaz", ((1, "R1", 1),))), ("abbaab", ((1, "R1", 2),)))
        self.assertEqual(carry_way(self.RULES, self.DROP, ("zzaba", ((1, "R1", 3),))), ("abababa", ((1, "R1", 5),)))
        self.assertEqual(carry_way(self.RULES, self.DROP, ("bzab", ((-1, "R1", 2), (-1, "E", 4)))),
                         ("babab", ((-1, "R1", 3), (-1, "E", 5))))
        self.assertEqual(carry_way(self.RULES, self.DROP, ("baz", ((1, "R1", 0),))), ("baab", ((1, "R1", 0),)))

    def test_steps_of_the_defining_rule_are_left_out(self):
        way = ("za", ((1, "Z", 0), (1, "R1", 1), (1, "E", 0), (-1, "E", 1)))
        self.assertEqual(carry_way(self.RULES, self.DROP, way), ("aba", ((1, "R1", 1), (1, "E", 0), (-1, "E", 1))))
        way = ("abab", ((-1, "Z", 2), (-1, "Z", 0), (1, "Z", 1)))
        self.assertEqual(carry_way(self.RULES, self.DROP, way), ("abab", ()))

    def test_the_letter_in_an_input(self):
        # Over the changed rules the letter may be in no other rule, so only the defining rule has it in its input.
        rules = Rules("abz", [("R1", "ba", "ab"), ("Z", "bb", "z")], weights=[1, 3, 2])
        way = ("bba", ((1, "Z", 0), (-1, "Z", 0), (1, "R1", 1)))
        self.assertEqual(carry_way(rules, ("drop letter", "z"), way), ("bba", ((1, "R1", 1),)))

    def test_an_empty_word_in_the_place_of_the_letter(self):
        rules = Rules("abz", [("R1", "ba", "ab"), ("Z", "z", "")])
        self.assertEqual(carry_way(rules, self.DROP, ("zbzba", ((1, "R1", 3), (1, "Z", 2)))), ("bba", ((1, "R1", 1),)))

    def test_a_visited_image_of_32_and_33_letters(self):
        for many, right in [(16, True), (17, False)]:
            word = "z" * many
            way = (word, ((1, "Z", 0), (-1, "Z", 0)))
            if right:
                self.assertEqual(carry_word(self.RULES, self.DROP, word), "ab" * 16)
                self.assertEqual(carry_way(self.RULES, self.DROP, way), ("ab" * 16, ()))
            else:
                self.refuses(TooLong(), carry_word, self.RULES, self.DROP, word)
                self.refuses(TooLong(), carry_way, self.RULES, self.DROP, way)
                self.refuses(TooLong(), change_squares, self.RULES, self.DROP, [("S", (word, ()), (word, ()))])
        # In the middle of the way alone.
        word = "z" * 15 + "a"
        self.assertEqual(len(carry_way(self.RULES, self.DROP, ("z" * 15, ((-1, "E", 0),)))[0]), 30)
        self.refuses(TooLong(), carry_way, self.RULES, self.DROP, (word, ((-1, "E", 0), (1, "E", 0))))
        # A long word without the letter stays as it is.
        self.assertEqual(carry_word(self.RULES, self.DROP, "a" * 32), "a" * 32)

    def test_images_lead_from_image_to_image(self):
        luck = random.Random(79)
        for _ in range(100):
            way = some_way(luck, self.RULES, 8)
            image = carry_way(self.RULES, self.DROP, way)
            changed = change_rules(self.RULES, self.DROP)
            check_way(changed, image)
            words = [word.replace("z", "ab") for word in way_words(self.RULES, way)]
            self.assertEqual((image[0], way_end(changed, image)), (words[0], words[-1]))
            seen = way_words(changed, image)
            self.assertEqual([word for at, word in enumerate(words) if at == 0 or way[1][at - 1][1] != "Z"], seen)


class TestCarrying(ChangeCase):

    def test_adding_a_letter(self):
        way = ("cba", ((1, "R1", 1), (1, "C", 0)))
        self.assertEqual(carry_way(RULES, ADD_LETTER, way), way)
        self.assertEqual(carry_word(RULES, ADD_LETTER, "cba"), "cba")
        # Bringing puts in the word of the letter.
        self.assertEqual(bring_word(RULES, ADD_LETTER, "cdbd"), "cbabba")
        self.assertEqual(bring_way(RULES, ADD_LETTER, ("dba", ((1, "R1", 1), (1, "D", 0)))), ("baba", ((1, "R1", 2),)))
        self.refuses(TooLong(), bring_word, RULES, ADD_LETTER, "d" * 17)
        self.refuses(TooLong(), bring_way, RULES, ADD_LETTER, ("d" * 17, ((1, "D", 0),)))
        self.assertEqual(bring_word(RULES, ADD_LETTER, "d" * 16), "ba" * 16)

    def test_dropping_a_letter(self):
        way = ("cba", ((1, "R1", 1), (1, "C", 0)))
        self.assertEqual(carry_way(RULES, DROP_LETTER, way), ("abba", ((1, "R1", 2),)))
        self.assertEqual(carry_word(RULES, DROP_LETTER, "cc"), "abab")
        way = ("baa", ((1, "R1", 0),))
        self.assertEqual(bring_way(RULES, DROP_LETTER, way), way)
        self.assertEqual(bring_word(RULES, DROP_LETTER, "baa"), "baa")

    def test_adding_a_rule(self):
        way = ("bbac", ((1, "R1", 1),))
        self.assertEqual(carry_way(RULES, ADD_RULE, way), way)
        self.assertEqual(carry_word(RULES, ADD_RULE, "bbac"), "bbac")
        self.assertEqual(bring_word(RULES, ADD_RULE, "bbac"), "bbac")
        way = ("abbabba", ((1, "N", 4), (1, "N", 1), (-1, "N", 1), (1, "R1", 2)))
        self.assertEqual(bring_way(RULES, ADD_RULE, way),
                         ("abbabba", ((1, "R1", 5), (1, "R1", 4), (1, "R1", 2), (1, "R1", 1), (-1, "R1", 1),
                                      (-1, "R1", 2), (1, "R1", 2))))
        self.assertEqual(bring_way(RULES, ADD_RULE, ("cbba", ((1, "N", 1),))), ("cbba", ((1, "R1", 2), (1, "R1", 1))))
        self.assertEqual(bring_way(RULES, ADD_RULE, ("cabb", ((-1, "N", 1),))),
                         ("cabb", ((-1, "R1", 1), (-1, "R1", 2))))

    def test_dropping_a_rule(self):
        way = ("cbaac", ((1, "B", 1), (-1, "B", 1)))
        self.assertEqual(carry_way(WITH_B, DROP_RULE, way),
                         ("cbaac", ((1, "R1", 1), (1, "R1", 2), (1, "E", 1),
                                    (-1, "E", 1), (-1, "R1", 2), (-1, "R1", 1))))
        self.assertEqual(carry_word(WITH_B, DROP_RULE, "cbaac"), "cbaac")
        self.assertEqual(bring_word(WITH_B, DROP_RULE, "cbaac"), "cbaac")
        way = ("baa", ((1, "R1", 0), (1, "R1", 1)))
        self.assertEqual(bring_way(WITH_B, DROP_RULE, way), way)

    def test_120_and_121_steps(self):
        pair = ((1, "B", 0), (-1, "B", 0))
        other = ((1, "R1", 0), (-1, "R1", 0))
        self.assertEqual(len(carry_way(WITH_B, DROP_RULE, ("baa", pair * 20))[1]), 120)
        self.refuses(TooLong(), carry_way, WITH_B, DROP_RULE, ("baa", pair * 20 + other[:1]))
        self.refuses(TooLong(), carry_way, WITH_B, DROP_RULE, ("baa", pair * 60))
        pair = ((1, "N", 0), (-1, "N", 0))
        self.assertEqual(len(bring_way(RULES, ADD_RULE, ("bba", pair * 30))[1]), 120)
        self.refuses(TooLong(), bring_way, RULES, ADD_RULE, ("bba", pair * 30 + ((1, "R1", 1),)))

    def test_words_of_32_and_33_letters(self):
        long_way = ("add rule", "N", "ba", "ab", ("ba", ((-1, "E", 0), (1, "E", 0), (1, "R1", 0))))
        self.assertEqual(len(bring_way(RULES, long_way, ("b" * 29 + "a", ((1, "N", 28),)))[1]), 3)
        self.refuses(TooLong(), bring_way, RULES, long_way, ("b" * 30 + "a", ((1, "N", 29),)))
        self.assertEqual(bring_word(RULES, long_way, "b" * 32), "b" * 32)
        drop = ("drop rule", "N", long_way[4])
        rules = change_rules(RULES, long_way)
        self.assertEqual(len(carry_way(rules, drop, ("b" * 29 + "a", ((1, "N", 28),)))[1]), 3)
        self.refuses(TooLong(), carry_way, rules, drop, ("b" * 30 + "a", ((1, "N", 29),)))

    def test_errors_in_order(self):
        for rules, change in CHANGES:
            self.refuses(BadWord("?"), carry_word, rules, change, "?")
            self.refuses(BadWord("?"), bring_word, rules, change, "?")
            self.refuses(TooLong(), carry_word, rules, change, "a" * 33)
            self.refuses(TooLong(), bring_word, rules, change, "a" * 33)
            for call in [carry_way, bring_way]:
                self.refuses(BadWord("?"), call, rules, change, ("?", ()))
                self.refuses(BadStep(0), call, rules, change, ("ab", ((1, "R1", 0),)))
                self.refuses(Unknown("R9"), call, rules, change, ("ab", ((1, "R9", 0),)))
                self.refuses(TooLong(), call, rules, change, ("ba", ((1, "R1", 0), (-1, "R1", 0)) * 61))

    def test_carried_over_the_rules_and_brought_over_the_changed_rules(self):
        self.refuses(BadWord("d"), carry_word, RULES, ADD_LETTER, "d")
        self.assertEqual(bring_word(RULES, ADD_LETTER, "d"), "ba")
        self.refuses(BadWord("c"), bring_word, RULES, DROP_LETTER, "c")
        self.assertEqual(carry_word(RULES, DROP_LETTER, "c"), "ab")
        self.refuses(Unknown("N"), carry_way, RULES, ADD_RULE, ("bba", ((1, "N", 0),)))
        self.refuses(Unknown("B"), bring_way, WITH_B, DROP_RULE, ("baa", ((1, "B", 0),)))
        self.refuses(Unknown("C"), bring_way, RULES, DROP_LETTER, ("ab", ((-1, "C", 0),)))

    def test_any_ways(self):
        luck = random.Random(83)
        for rules, change in CHANGES:
            changed = change_rules(rules, change)
            for _ in range(60):
                way = some_way(luck, rules, 6)
                carried = carry_way(rules, change, way)
                check_way(changed, carried)
                self.assertEqual(carried[0], carry_word(rules, change, way[0]))
                self.assertEqual(way_end(changed, carried), carry_word(rules, change, way_end(rules, way)))
                way = some_way(luck, changed, 6)
                brought = bring_way(rules, change, way)
                check_way(rules, brought)
                self.assertEqual(brought[0], bring_word(rules, change, way[0]))
                self.assertEqual(way_end(rules, brought), bring_word(rules, change, way_end(changed, way)))


class TestSquares(ChangeCase):

    def squares(self, rules):
        """Some squares: ways there and the same ways over a loop."""
        luck = random.Random(89)
        squares = []
        for at in range(6):
            one, front = some_way(luck, rules, 3, 4), some_way(luck, rules, 2, 4)
            loop = join_ways(rules, turn_way(rules, one), one)
            squares.append((f"S{at}", one, join_ways(rules, one, loop)))
            squares.append((f"T{at}", front, front))
        return squares

    def test_both_legs(self):
        for rules, change in CHANGES:
            changed = change_rules(rules, change)
            squares = self.squares(rules)
            carried = change_squares(rules, change, squares)
            check_squares(changed, carried)
            expected = [(name, carry_way(rules, change, one), carry_way(rules, change, other))
                        for name, one, other in squares]
            self.assertEqual(carried[:12], expected)
            self.assertEqual(len(carried), 13 if change[0] == "add rule" else 12)
            squares = self.squares(changed)
            brought = bring_squares(rules, change, squares)
            check_squares(rules, brought)
            self.assertEqual(brought, [(name, bring_way(rules, change, one), bring_way(rules, change, other))
                                       for name, one, other in squares])

    def test_the_added_square(self):
        for names, free in [([], "A1"), (["A1"], "A2"), (["A2"], "A1"), (["A3", "A2", "A1"], "A4"), (["A01"], "A1")]:
            squares = [(name, ("", ()), ("", ())) for name in names]
            carried = change_squares(RULES, ADD_RULE, squares)
            self.assertEqual(carried[:-1], squares)
            self.assertEqual(carried[-1], (free, ("bba", ((1, "N", 0),)), ADD_RULE[4]))
        self.assertEqual(change_squares(RULES, ADD_LETTER, []), [])
        self.assertEqual(bring_squares(RULES, ADD_RULE, []), [])

    def test_the_forty_first_square(self):
        squares = [(f"S{at}", ("", ()), ("", ())) for at in range(41)]
        self.assertEqual(len(change_squares(RULES, ADD_RULE, squares[:39])), 40)
        self.refuses(TooMany(), change_squares, RULES, ADD_RULE, squares[:40])
        self.assertEqual(len(bring_squares(RULES, ADD_RULE, squares[:40])), 40)
        for rules, change in CHANGES:
            self.refuses(TooMany(), change_squares, rules, change, squares)
            self.refuses(TooMany(), bring_squares, rules, change, squares)
            if change[0] != "add rule":
                self.assertEqual(len(change_squares(rules, change, squares[:40])), 40)
        # After the squares are examined.
        self.refuses(BadSquare("?"), change_squares, RULES, ADD_RULE, squares[:39] + WRONG)
        self.refuses(Repeated("S0"), change_squares, RULES, ADD_RULE, squares[:39] + squares[:1])

    def test_errors_in_order(self):
        for rules, change in CHANGES:
            for call in [change_squares, bring_squares]:
                self.refuses(BadSquare("?"), call, rules, change, WRONG)
        leg = ("bba", ((1, "N", 0),))
        self.refuses(BadSquare("S"), change_squares, RULES, ADD_RULE, [("S", leg, leg)])
        self.assertEqual(bring_squares(RULES, ADD_RULE, [("S", leg, leg)]), [("S", ADD_RULE[4], ADD_RULE[4])])
        leg = ("c", ((1, "C", 0),))
        self.assertEqual(change_squares(RULES, DROP_LETTER, [("S", leg, leg)]), [("S", ("ab", ()), ("ab", ()))])
        self.refuses(BadSquare("S"), bring_squares, RULES, DROP_LETTER, [("S", leg, leg)])

    def test_legs_that_become_too_long(self):
        leg = ("baa", ((1, "B", 0), (-1, "B", 0)) * 21)
        self.refuses(TooLong(), change_squares, WITH_B, DROP_RULE, [("S", ("baa", ()), leg)])
        self.refuses(TooLong(), change_squares, WITH_B, DROP_RULE, [("S", leg, ("baa", ()))])
        leg = ("d" * 17, ())
        self.refuses(TooLong(), bring_squares, RULES, ADD_LETTER, [("S", leg, leg)])

    def test_plain_squares_are_carried(self):
        rules = Rules("ab", [("R1", "ba", "ab"), ("E", "aa", "")])
        change = ("add letter", "c", 9, "ab", "C")
        self.assertEqual(change_squares(rules, change, plain_squares(rules)), plain_squares(rules))


class TestLists(ChangeCase):

    RULES = Rules("ab", [("R1", "ba", "ab")])

    def right_list(self):
        way = ("ca", ((1, "C", 0), (1, "R1", 0)))
        return [("add letter", "c", 9, "ba", "C"), ("add rule", "N", "ca", "aba", way),
                ("add letter", "d", 20, "cc", "D"), ("drop rule", "N", way)]

    def test_one_after_another(self):
        changes = self.right_list()
        rules = self.RULES
        for many in range(5):
            self.assertEqual(change_all(self.RULES, changes[:many]), rules)
            if many < 4:
                rules = change_rules(rules, changes[many])
        self.assertEqual(rules, Rules("abcd", [("R1", "ba", "ab"), ("C", "c", "ba"), ("D", "d", "cc")],
                                      weights=[1, 1, 9, 20]))

    def test_carrying_and_bringing(self):
        changes = self.right_list()
        way = ("bab", ((1, "R1", 0),))
        self.assertEqual(carry_along(self.RULES, changes, way), way)
        # Back: D is put in first, and then C.
        way = ("da", ((1, "D", 0), (1, "C", 1), (1, "R1", 1)))
        self.assertEqual(bring_along(self.RULES, changes, way), ("babaa", ((1, "R1", 2),)))
        middle = ("dca", ((1, "N", 1), (1, "D", 0)))
        self.assertEqual(bring_along(self.RULES, changes[:3], middle), ("bababaa", ((1, "R1", 4),)))
        for call in [carry_along, bring_along]:
            self.assertEqual(call(self.RULES, [], ("ba", ((1, "R1", 0),))), ("ba", ((1, "R1", 0),)))

    def test_a_rule_and_then_a_letter(self):
        rules = Rules("abc", WITH_B.rows + [("C", "c", "")], weights=[2, 3, 5])
        changes = [DROP_RULE, ("drop letter", "c")]
        self.assertEqual(carry_along(rules, changes, ("cbaa", ((1, "B", 1), (1, "C", 0)))),
                         ("baa", ((1, "R1", 0), (1, "R1", 1), (1, "E", 0))))
        changes = [("add letter", "d", 9, "ba", "D"), ("add rule", "N", "da", "b", ("da", ((1, "D", 0), (1, "B", 0))))]
        self.assertEqual(bring_along(rules, changes, ("dda", ((1, "N", 1), (1, "D", 0)))), ("babaa", ((1, "B", 2),)))

    def test_step_by_step(self):
        luck = random.Random(97)
        changes = self.right_list()
        stages = [change_all(self.RULES, changes[:many]) for many in range(5)]
        for _ in range(40):
            way = expected = some_way(luck, self.RULES, 5)
            for rules, change in zip(stages, changes):
                expected = carry_way(rules, change, expected)
            self.assertEqual(carry_along(self.RULES, changes, way), expected)
            way = expected = some_way(luck, stages[4], 5, 3)
            for rules, change in list(zip(stages, changes))[::-1]:
                expected = bring_way(rules, change, expected)
            self.assertEqual(bring_along(self.RULES, changes, way), expected)

    def toggles(self, many):
        changes = []
        for at in range(many):
            changes.append(("drop letter", "c") if at % 2 else ("add letter", "c", 9, "ba", "C"))
        return changes

    def test_12_and_13_changes(self):
        self.assertEqual(change_all(self.RULES, self.toggles(12)), self.RULES)
        self.assertEqual(carry_along(self.RULES, self.toggles(12), ("a", ())), ("a", ()))
        self.assertEqual(bring_along(self.RULES, self.toggles(12), ("a", ())), ("a", ()))
        for changes in [self.toggles(13), [("?",)] * 13, [("?",)] + self.toggles(12)]:
            self.refuses(TooMany(), change_all, self.RULES, changes)
            self.refuses(TooMany(), carry_along, self.RULES, changes, ("?", ()))
            self.refuses(TooMany(), bring_along, self.RULES, changes, ("?", ()))

    def test_the_index_of_a_bad_change(self):
        for changes, at in [([("?",)], 0), (self.toggles(3) + self.toggles(1), 3), (self.toggles(11) + [("?",)], 11),
                            (self.right_list() + self.right_list(), 4), (self.toggles(2)[1:], 0)]:
            self.refuses(BadChange(at), change_all, self.RULES, changes)
            # Before the errors of the way.
            self.refuses(BadChange(at), carry_along, self.RULES, changes, ("?", ()))
            self.refuses(BadChange(at), bring_along, self.RULES, changes, ("?", ()))

    def test_errors_of_the_way(self):
        changes = self.toggles(1)
        self.refuses(BadWord("c"), carry_along, self.RULES, changes, ("c", ()))
        self.assertEqual(bring_along(self.RULES, changes, ("c", ())), ("ba", ()))
        changes = self.toggles(2)
        self.refuses(BadWord("c"), bring_along, self.RULES, changes, ("c", ()))
        self.refuses(BadStep(0), carry_along, self.RULES, changes, ("a", ((1, "R1", 0),)))
        self.refuses(BadStep(0), bring_along, self.RULES, changes, ("a", ((1, "R1", 0),)))

    def test_a_way_that_a_later_change_would_make_short_again(self):
        # The letter c stands for eight letters a, and later on the letter a for nothing.
        rules = Rules("abc", [("C", "c", "b" * 8), ("B", "b", "")], weights=[1, 1, 9])
        changes = [("drop letter", "c"), ("drop letter", "b")]
        self.assertEqual(carry_along(rules, changes, ("cccc", ((1, "C", 0),))), ("", ()))
        self.refuses(TooLong(), carry_along, rules, changes, ("ccccc", ((1, "C", 0),)))
        rules = Rules("a", [])
        changes = [("add letter", "b", 1, "", "B"), ("add letter", "c", 9, "b" * 8, "C")]
        self.assertEqual(bring_along(rules, changes, ("cccc", ((1, "C", 0),))), ("", ()))
        self.refuses(TooLong(), bring_along, rules, changes, ("ccccc", ((1, "C", 0),)))


if __name__ == "__main__":
    unittest.main()
