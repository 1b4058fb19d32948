"""Points 111 to 113: script.py."""

import random
import unittest

from helpers import Case
from wayfill.errors import BadText
from wayfill.script import format_script, parse_script

ALONE = ["down", "turn", "shorten", "settle", "fill", "squares", "complete"]
SHOWN = ["word", "begin", "steps", "moves", "way", "rules"]
LONG = ":" + "z" * 32


def five(inner, outer=4):
    """A text with so many loops around another one, and the pieces before what is in it."""
    return "repeat 2 { " * outer + inner + " }" * outer, 3 * outer


class TestStatements(Case):

    def wrong(self, at, text):
        self.refuses(BadText(at), parse_script, text)

    def test_statements_of_one_word(self):
        for kind in ALONE:
            self.assertEqual(parse_script(kind), [(kind,)])
            self.assertEqual(parse_script(f"{kind} {kind}"), [(kind,), (kind,)])
            self.wrong(1, kind.upper())
            self.wrong(1, kind + "x")
            self.wrong(2, f"{kind} :a")
            self.wrong(2, f"{kind} {{ }}")

    def test_statements_with_a_word(self):
        for kind in ["write", "goto"]:
            self.assertEqual(parse_script(f"{kind} :abc"), [(kind, "abc")])
            self.assertEqual(parse_script(f"{kind} :"), [(kind, "")])
            self.assertEqual(parse_script(f"{kind} {LONG}"), [(kind, "z" * 32)])
            for piece in [LONG + "z", "abc", "::", ":a:", ":A", ":a1", "-", ":-", "last", "first", "{", "}", "R1", kind,
                          ":" + "z" * 5000]:
                self.wrong(2, f"{kind} {piece}")
            self.wrong(2, kind)
            self.wrong(3, f"{kind} : a")

    def test_steps(self):
        for kind in ["on", "back"]:
            for name in ["R1", "A", "Z9999999"]:
                for piece, place in [("first", None), ("0", 0), ("7", 7), ("10", 10), ("99", 99)]:
                    self.assertEqual(parse_script(f"{kind} {name} {piece}"), [(kind, name, place)])
            for piece in ["", "100", "000", "00", "01", "+1", "-1", "1a", "First", "last", ":a", "{", "}", "1.0", "R1"]:
                self.wrong(3, f"{kind} R1 {piece}")
            for name in ["r1", "1R", "R12345678", ":R", "R-1", "first", "{", "0"]:
                self.wrong(2, f"{kind} {name} 0")
            self.wrong(2, kind)
            self.wrong(3, f"{kind} R1")
            self.wrong(4, f"{kind} R1 0 0")

    def test_show(self):
        for what in SHOWN:
            self.assertEqual(parse_script(f"show {what}"), [("show", what)])
        for piece in ["", "Word", "words", "squares", "shown", ":a", "show", "{", "}", "end"]:
            self.wrong(2, f"show {piece}")

    def test_each(self):
        self.assertEqual(parse_script("each :a : :a { down turn }"), [("each", ["a", "", "a"], [("down",), ("turn",)])])
        self.assertEqual(parse_script("each : { }"), [("each", [""], [])])
        for many in [1, 2, 19, 20]:
            self.assertEqual(parse_script("each" + " :b" * many + " { }"), [("each", ["b"] * many, [])])
        self.wrong(22, "each" + " :b" * 21 + " { }")
        self.wrong(22, "each" + " :b" * 20)
        self.wrong(22, "each" + " :b" * 20 + " down")
        self.wrong(2, "each { }")
        self.wrong(2, "each")
        self.wrong(3, "each :a")
        self.wrong(3, "each :a down")
        self.wrong(3, "each :a }")
        self.wrong(3, "each :a :A { }")
        self.wrong(2, "each last { }")

    def test_until(self):
        self.assertEqual(parse_script("until :ab { down }"), [("until", "ab", [("down",)])])
        self.assertEqual(parse_script("until : { }"), [("until", "", [])])
        self.assertEqual(parse_script("until last { }"), [("until", None, [])])
        for piece in ["first", "Last", "ab", "{", "}", "3", LONG + "z"]:
            self.wrong(2, f"until {piece} {{ }}")
        self.wrong(2, "until")
        self.wrong(3, "until last")
        self.wrong(3, "until last last { }")
        self.wrong(3, "until :a :b { }")
        self.wrong(3, "until :a }")

    def test_repeat(self):
        for number in range(41):
            self.assertEqual(parse_script(f"repeat {number} {{ down }}"), [("repeat", number, [("down",)])])
        for piece in ["41", "99", "100", "00", "01", "040", "-1", "+1", "first", ":a", "{", "}", "x", "4 0"]:
            self.wrong(3 if piece == "4 0" else 2, f"repeat {piece} {{ }}")
        self.wrong(2, "repeat")
        self.wrong(3, "repeat 3")
        self.wrong(3, "repeat 3 down")

    def test_other_pieces_where_a_statement_is_wanted(self):
        for piece in ["{", "}", ":", ":a", "R1", "0", "first", "last", "word", "way", "rules", "{down}", "down}", "{}",
                      "-", "DOWN", "dow", "downn", "return", "#", "\"", "a" * 5000]:
            self.wrong(1, piece)
            self.wrong(2, f"down {piece}")
            self.wrong(6, f"down repeat 2 {{ turn {'x' if piece == '}' else piece}")
        self.wrong(4, "down repeat 2 {down}")
        self.wrong(5, "until last { down down}")


class TestPieces(Case):

    def wrong(self, at, text):
        self.refuses(BadText(at), parse_script, text)

    def test_spaces_and_newlines(self):
        expected = [("on", "R1", None), ("repeat", 2, [("down",)])]
        for space in [" ", "\n", "  ", "\n\n", " \n ", "   \n\n   "]:
            text = space.join("on R1 first repeat 2 { down }".split(" "))
            for before, after in [("", ""), (space, ""), ("", space), (space, space)]:
                self.assertEqual(parse_script(before + text + after), expected)
                self.wrong(9, before + text + space + "}" + after)

    def test_texts_without_pieces(self):
        for text in ["", " ", "\n", "   ", "\n\n \n"]:
            self.assertEqual(parse_script(text), [])

    def test_texts_that_end_too_early(self):
        pieces = "each :a : { on R1 0 until last { repeat 2 { show word } } } write :b".split(" ")
        self.assertEqual(len(parse_script(" ".join(pieces))), 2)
        for many in range(len(pieces)):
            if many not in (0, 18):
                self.wrong(many + 1, " ".join(pieces[:many]))
                self.wrong(many + 1, " ".join(pieces[:many]) + "\n ")

    def test_the_first_wrong_piece_is_told(self):
        self.wrong(2, "write X on 1 1 }")
        self.wrong(3, "down turn } } }")
        self.wrong(5, "each :a { down ] }")

    def test_closing_braces(self):
        self.wrong(1, "}")
        self.wrong(2, "down }")
        self.wrong(5, "repeat 2 { } }")
        self.wrong(6, "repeat 2 { down } }")

    def test_braces_must_stand_alone(self):
        for text, at in [("repeat 2 {down }", 3), ("repeat 2{ down }", 2), ("repeat 2 { down} }", 4),
                         ("repeat 2 {} down", 3), ("repeat 2 { down }down", 5), ("each :a{ }", 2)]:
            self.wrong(at, text)


class TestBounds(Case):

    def wrong(self, at, text):
        self.refuses(BadText(at), parse_script, text)

    def test_60_and_61_statements(self):
        self.assertEqual(parse_script("down " * 60), [("down",)] * 60)
        self.wrong(61, "down " * 61)
        self.wrong(61, "down " * 60 + "x")
        self.wrong(61, "down " * 60 + "repeat 2 { down }")
        self.assertEqual(len(parse_script("write :a " * 60)), 60)
        self.wrong(121, "write :a " * 60 + "write :a")

    def test_loops_and_bodies_count(self):
        text = "repeat 2 { " + "down " * 59 + "}"
        self.assertEqual(len(parse_script(text)[0][2]), 59)
        self.wrong(63, "repeat 2 { " + "down " * 60 + "}")
        self.wrong(64, text + " down")
        self.assertEqual(len(parse_script("repeat 2 { } " * 60)), 60)
        self.wrong(241, "repeat 2 { } " * 61)
        text = "repeat 2 { each :a { down until last { } } } " * 15
        self.assertEqual(len(parse_script(text)), 15)
        self.wrong(15 * 13 + 1, text + "down")

    def test_five_and_six_loops_within_one_another(self):
        for loop in ["repeat 2 { }", "each :a { }", "until last { }", "until :a { }"]:
            text, before = five(loop)
            self.assertEqual(len(parse_script(text)), 1)
            text, before = five(loop, outer=5)
            self.wrong(before + 1, text)
        text, before = five("down", outer=5)
        self.assertEqual(parse_script(text)[0][2][0][2][0][2][0][2][0][2], [("down",)])
        text, before = five("down repeat 2 { } each :a { } down")
        self.assertEqual(len(parse_script(text)), 1)
        text, before = five("down show word repeat 2 { }", outer=5)
        self.wrong(before + 4, text)
        # Loops beside one another are not within one another.
        self.assertEqual(len(parse_script("repeat 1 { } " * 7)), 7)


class TestFormatting(Case):

    def test_each_statement(self):
        statements = [("write", "ab"), ("write", ""), ("goto", ""), ("on", "R1", 0), ("back", "R1", None),
                      ("on", "A", 12), ("show", "word")] + [(kind,) for kind in ALONE]
        lines = ["write :ab", "write :", "goto :", "on R1 0", "back R1 first", "on A 12", "show word"] + ALONE
        self.assertEqual(format_script(statements), "\n".join(lines))
        for statement, line in zip(statements, lines):
            self.assertEqual(format_script([statement]), line)

    def test_loops(self):
        self.assertEqual(format_script([("each", ["a", ""], [("down",)])]), "each :a : {\n  down\n}")
        self.assertEqual(format_script([("until", None, []), ("until", "", []), ("repeat", 0, [])]),
                         "until last {\n}\nuntil : {\n}\nrepeat 0 {\n}")
        inner = [("repeat", 2, [("each", ["a"], [("turn",), ("until", "b", [("down",), ("show", "way")])]), ("fill",)])]
        self.assertEqual(format_script(inner), """repeat 2 {
  each :a {
    turn
    until :b {
      down
      show way
    }
  }
  fill
}""")

    def test_no_statements(self):
        self.assertEqual(format_script([]), "")

    def test_the_text_read_again(self):
        luck = random.Random(21)
        for _ in range(300):
            statements = self.some_statements(luck, 0, [0])
            text = format_script(statements)
            self.assertEqual(parse_script(text), statements)
            self.assertEqual(parse_script(text.replace("\n", " ")), statements)
            self.assertEqual(format_script(parse_script(text)), text)

    def some_statements(self, luck, depth, count):
        statements = []
        for _ in range(luck.randint(0, 4)):
            if count[0] == 60:
                break
            count[0] += 1
            statements.append(self.some_statement(luck, depth, count))
        return statements

    def some_statement(self, luck, depth, count):
        word = "".join(luck.choice("abz") for _ in range(luck.choice([0, 1, 32])))
        plain = [("write", word), ("goto", word), ("on", "R1", luck.choice([None, 0, 99])), ("back", "Z", 9),
                 ("show", luck.choice(SHOWN)), (luck.choice(ALONE),)]
        if depth == 5 or luck.random() < 0.5:
            return luck.choice(plain)
        head = luck.choice([("each", [word] * luck.randint(1, 20)), ("until", luck.choice([None, word])),
                            ("repeat", luck.randint(0, 40))])
        return head + (self.some_statements(luck, depth + 1, count),)


class TestGeneral(Case):

    TEXT = "each :a : { until last { on R1 first } }"

    def test_new_lists(self):
        first = parse_script(self.TEXT)
        first[0][1].append("x")
        first[0][2][0][2].clear()
        first.clear()
        self.assertEqual(parse_script(text=self.TEXT), [("each", ["a", ""], [("until", None, [("on", "R1", None)])])])

    def test_arguments_stay_as_they_were(self):
        statements = parse_script(self.TEXT)
        text = format_script(statements=statements)
        self.assertEqual(statements, parse_script(self.TEXT))
        self.assertEqual(format_script(statements), text)


if __name__ == "__main__":
    unittest.main()
