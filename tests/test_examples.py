"""The examples of the document, as they stand there."""

import unittest

from helpers import Case
from wayfill.down import down_way
from wayfill.errors import BadText
from wayfill.listing import class_number, class_table, count_last
from wayfill.overlaps import list_overlaps
from wayfill.rules import Rules, find_weights, format_rules, parse_rules
from wayfill.script import format_script, parse_script
from wayfill.steps import steps_at
from wayfill.sums import Sum
from wayfill.ways import format_way
from wayfill.whole import kernel_rows, reduce_rows
from wayfill.words import compare_words, places_of


class TestExamples(Case):

    def test_words(self):
        self.assertEqual(compare_words("ab", [1, 1], "ba", "ab"), 1)
        self.assertEqual(compare_words("ab", [3, 1], "a", "bb"), 1)
        self.assertEqual(places_of("aa", "aaa"), [0, 1])
        self.assertEqual(places_of("", "ab"), [0, 1, 2])

    def test_whole(self):
        self.assertEqual(reduce_rows([[2, 4], [1, 2]], width=2)[0], [[1, 2]])
        self.assertEqual(kernel_rows([[2, 4], [1, 2]], width=2), [[-2, 1]])

    def test_rules(self):
        self.assertEqual(find_weights("ab", [("R1", "a", "bb")]), [3, 1])
        self.assertEqual(format_rules(Rules("ab", [("R1", "ab", "")], weights=[1, 2])),
                         "letters ab\nweights 1 2\nrule R1 ab -> -")
        self.refuses(BadText(2), parse_rules, "letters ab\nweights 1")

    def test_steps(self):
        self.assertEqual(steps_at(Rules("a", [("R1", "aa", "a")]), "aa"),
                         [(1, "R1", 0), (-1, "R1", 0), (-1, "R1", 1)])

    def test_ways(self):
        self.assertEqual(format_way(("aaa", ((1, "R1", 0), (-1, "R1", 1)))), "aaa R1+0 R1-1")

    def test_down(self):
        self.assertEqual(down_way(Rules("ab", [("R1", "ba", "ab")]), "bab"), ("bab", ((1, "R1", 0),)))

    def test_overlaps(self):
        self.assertEqual(list_overlaps(Rules("a", [("R1", "aa", "a")])), [("aaa", (1, "R1", 0), (1, "R1", 1))])

    def test_listing(self):
        rules = Rules("ab", [("R1", "ba", "ab")])
        self.assertEqual((count_last(rules, most=3), class_number(rules)), ([1, 2, 3, 4], None))
        self.assertEqual(class_table(Rules("a", [("R1", "aaa", "")])), (["", "a", "aa"], [[1], [2], [0]]))

    def test_sums(self):
        rules = Rules("ab", [("R1", "ba", "ab")])
        self.assertEqual(list(Sum(rules, [(2, "ba"), (1, "ab"), (0, "a")])), [(3, "ab")])

    def test_script(self):
        self.assertEqual(parse_script("write :ba until last { on R1 first }"),
                         [("write", "ba"), ("until", None, [("on", "R1", None)])])
        self.refuses(BadText(5), parse_script, "repeat 2 { down")
        self.assertEqual(format_script([("each", ["a", ""], [("down",)])]), "each :a : {\n  down\n}")


if __name__ == "__main__":
    unittest.main()
