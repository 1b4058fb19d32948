"""Points 23 and 24: the text of rules."""

import unittest

from helpers import Case
from wayfill.errors import BadText
from wayfill.rules import Rules, format_rules, parse_rules

HEAD = "letters ab\nweights 1 2"


def text_of(many):
    """The text of so many rules."""
    return "\n".join([HEAD] + [f"rule R{at} b -> a" for at in range(many)])


class TestFormat(Case):

    def test_lines(self):
        rules = Rules("ab", [("R1", "ab", ""), ("A", "bb", "aaa")], weights=[1, 99])
        self.assertEqual(format_rules(rules), "letters ab\nweights 1 99\nrule R1 ab -> -\nrule A bb -> aaa")

    def test_without_rules(self):
        self.assertEqual(format_rules(Rules("f", [])), "letters f\nweights 1")
        self.assertEqual(format_rules(Rules("cab", [])), "letters cab\nweights 1 1 1")

    def test_the_largest_rules(self):
        rows = [(f"RULENO{at}", "f" * 8, "a" * 8) for at in range(10, 22)]
        rules = Rules("abcdef", rows, weights=[99] * 6)
        self.assertEqual(format_rules(rules).split("\n")[13], "rule RULENO21 ffffffff -> aaaaaaaa")
        self.assertEqual(parse_rules(format_rules(rules)), rules)


class TestParse(Case):

    def test_there_and_back(self):
        for rules in [Rules("a", []), Rules("zy", [("R1", "y", "z")], weights=[9, 10]),
                      Rules("ab", [("R1", "ab", ""), ("R2", "ab", ""), ("B", "b", "a")], weights=[1, 2])]:
            text = format_rules(rules)
            self.assertEqual(parse_rules(text), rules)
            self.assertEqual(format_rules(parse_rules(text)), text)

    def test_ordinary_text(self):
        rules = parse_rules(HEAD + "\nrule R1 b -> a\nrule R2 ba -> -")
        self.assertEqual(rules, Rules("ab", [("R1", "b", "a"), ("R2", "ba", "")], weights=[1, 2]))

    def test_twelve_rules_and_a_thirteenth(self):
        self.assertEqual(len(parse_rules(text_of(12))), 12)
        self.refuses(BadText(15), parse_rules, text_of(13))
        self.refuses(BadText(15), parse_rules, text_of(14))

    def test_line_1(self):
        for line in ["", " ", "letters", "letters ", "letters  ab", "letters ab ", " letters ab", "letters ab c",
                     "Letters ab", "letter ab", "weights 1 2", "letters aa", "letters abcdefg", "letters A",
                     "letters -", "ab", "letters a b"]:
            self.refuses(BadText(1), parse_rules, line)
            self.refuses(BadText(1), parse_rules, line + "\nweights 1 2")
            self.refuses(BadText(1), parse_rules, line + "\n?\n?")

    def test_the_empty_text_and_newlines(self):
        self.refuses(BadText(1), parse_rules, "")
        self.refuses(BadText(1), parse_rules, "\n" + HEAD)
        self.refuses(BadText(2), parse_rules, "letters ab")
        self.refuses(BadText(2), parse_rules, "letters ab\n")
        self.refuses(BadText(2), parse_rules, "letters ab\n\nweights 1 2")
        self.refuses(BadText(3), parse_rules, HEAD + "\n")
        self.refuses(BadText(4), parse_rules, text_of(1) + "\n")
        self.refuses(BadText(4), parse_rules, text_of(1) + "\n\nrule R9 b -> a")

    def test_line_2(self):
        for line in ["weights", "weights ", "weights 1", "weights 1 2 3", "weights  1 2", "weights 1  2",
                     "weights 1 2 ", " weights 1 2", "weight 1 2", "weights 0 1", "weights 1 00", "weights 01 2",
                     "weights 1 100", "weights 100 1", "weights +1 2", "weights -1 2", "weights 1 a", "weights 1 1_",
                     "weights 1 2.", "letters ab", "rule R1 b -> a", "1 2", "weights 12345678 1"]:
            self.refuses(BadText(2), parse_rules, "letters ab\n" + line)
            self.refuses(BadText(2), parse_rules, "letters ab\n" + line + "\n?")
        self.assertEqual(parse_rules("letters ab\nweights 99 10").weights, [99, 10])

    def test_the_form_of_a_rule(self):
        for line in ["", "rule", "rule R1", "rule R1 b", "rule R1 b ->", "rule R1 b -> ", "rule R1 b a",
                     "rule R1 b - a", "rule R1 b = a", "rule R1 b -> a ", " rule R1 b -> a", "rule  R1 b -> a",
                     "rule R1  b -> a", "rule R1 b  -> a", "rule R1 b ->  a", "rule R1 b -> a a", "rules R1 b -> a",
                     "R1 b -> a",
                     "rule R1  -> a", "weights 1 2", "rule R1 b->a", "rule R1 -> b a"]:
            self.refuses(BadText(3), parse_rules, HEAD + "\n" + line)
            self.refuses(BadText(3), parse_rules, HEAD + "\n" + line + "\n?")

    def test_the_content_of_a_rule(self):
        for line in ["rule r1 b -> a", "rule 1R b -> a", "rule R12345678 b -> a", "rule - b -> a", "rule R1 c -> a",
                     "rule R1 b -> c", "rule R1 - -> a", "rule R1 - -> -", "rule R1 b -> b", "rule R1 a -> b",
                     "rule R1 b -> aaaaaaaaa", "rule R1 aaaaaaaaa -> b", "rule R1 b -> --", "rule R1 -b -> a"]:
            self.refuses(BadText(3), parse_rules, HEAD + "\n" + line)
            self.refuses(BadText(4), parse_rules, HEAD + "\nrule X b -> a\n" + line)

    def test_a_rule_that_does_not_go_down_is_refused_at_its_own_line(self):
        self.refuses(BadText(4), parse_rules, HEAD + "\nrule R1 b -> a\nrule R2 a -> b\n?")
        self.assertEqual(len(parse_rules("letters ba\nweights 1 1\nrule R2 a -> b")), 1)

    def test_a_name_of_a_line_before(self):
        self.refuses(BadText(4), parse_rules, HEAD + "\nrule R1 b -> a\nrule R1 ba -> a")
        self.refuses(BadText(5), parse_rules, HEAD + "\nrule R1 b -> a\nrule R2 b -> a\nrule R1 b -> a")

    def test_the_first_wrong_line(self):
        self.refuses(BadText(1), parse_rules, "?\n?\n?")
        self.refuses(BadText(2), parse_rules, "letters ab\n?\n?")
        self.refuses(BadText(3), parse_rules, HEAD + "\n?\nrule R1 b -> a")
        self.refuses(BadText(15), parse_rules, text_of(12) + "\n?")
        self.refuses(BadText(3), parse_rules, HEAD + "\n" * 4900)


if __name__ == "__main__":
    unittest.main()
