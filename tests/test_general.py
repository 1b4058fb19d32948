"""Points 2 to 5 for all functions: values, arguments, the order of errors, judges."""

import inspect
import random
import unittest

import wayfill
from helpers import Calls, Case, Orders, spoil
from wayfill import down, overlaps, rules, steps, ways, whole, words
from wayfill.errors import BadLetters, BadName, BadNumber, BadRow, BadStep, BadText, BadWeights, BadWord, TooLong
from wayfill.errors import TooMany, Unknown, WayfillError
from wayfill.rules import Rules

ROWS = [("R1", "ba", "ab"), ("E", "aa", "")]
RULES = Rules("ab", ROWS, weights=[2, 3])
WAY = ("baa", ((1, "R1", 0), (-1, "R1", 0), (1, "E", 1)))
STEP = (1, "R1", 0)
OVERLAP = ("baa", (1, "R1", 0), (1, "E", 1))

# Each call with ordinary arguments, in the order of the heading.
CALLS = [
    (words.is_alphabet, {"letters": "ab"}),
    (words.is_word, {"letters": "ab", "word": "ba"}),
    (words.word_weight, {"letters": "ab", "weights": [2, 3], "word": "ba"}),
    (words.compare_words, {"letters": "ab", "weights": [2, 3], "one": "ba", "other": "aab"}),
    (words.sort_words, {"letters": "ab", "weights": [2, 3], "words": ["ba", "", "a", "ba"]}),
    (words.places_of, {"part": "a", "word": "aba"}),
    (words.format_word, {"word": "ab"}),
    (words.parse_word, {"letters": "ab", "text": "ab"}),
    (whole.reduce_rows, {"rows": [[2, 4], [0, 3], [2, 7]], "width": 2}),
    (whole.kernel_rows, {"rows": [[2, 4]], "width": 2}),
    (whole.row_rank, {"rows": [[2, 4]], "width": 2}),
    (whole.independent_rows, {"rows": [[0, 0], [2, 4]], "width": 2}),
    (whole.express, {"rows": [[2, 4]], "target": [1, 2]}),
    (whole.is_expression, {"rows": [[2, 4]], "target": [1, 2], "paper": (2, [1])}),
    (Rules, {"letters": "ab", "rows": ROWS, "weights": [2, 3]}),
    (RULES.left_of, {"name": "R1"}),
    (RULES.right_of, {"name": "R1"}),
    (RULES.rank_of, {"name": "R1"}),
    (rules.is_name, {"text": "R1"}),
    (rules.orient, {"letters": "ab", "rows": [("R1", "a", "b"), ("R2", "", "a")], "weights": [2, 3]}),
    (rules.find_weights, {"letters": "ab", "rows": [("R1", "a", "bb")], "most": 4}),
    (rules.format_rules, {"rules": RULES}),
    (rules.parse_rules, {"text": "letters ab\nweights 1 2\nrule R1 ab -> -"}),
    (steps.step_input, {"rules": RULES, "step": STEP}),
    (steps.step_output, {"rules": RULES, "step": STEP}),
    (steps.fits, {"rules": RULES, "word": "ba", "step": STEP}),
    (steps.do_step, {"rules": RULES, "word": "ba", "step": STEP}),
    (steps.turn_step, {"step": STEP}),
    (steps.shift_step, {"step": STEP, "by": 2}),
    (steps.steps_on, {"rules": RULES, "word": "baa"}),
    (steps.steps_back, {"rules": RULES, "word": "baa"}),
    (steps.steps_at, {"rules": RULES, "word": "baa"}),
    (ways.is_way, {"rules": RULES, "way": WAY}),
    (ways.check_way, {"rules": RULES, "way": WAY}),
    (ways.way_words, {"rules": RULES, "way": WAY}),
    (ways.way_end, {"rules": RULES, "way": WAY}),
    (ways.is_on, {"rules": RULES, "way": WAY}),
    (ways.join_ways, {"rules": RULES, "one": WAY, "other": ("b", ((-1, "E", 0),))}),
    (ways.turn_way, {"rules": RULES, "way": WAY}),
    (ways.set_way, {"rules": RULES, "before": "a", "way": WAY, "after": "b"}),
    (ways.cut_way, {"rules": RULES, "way": WAY, "first": 1, "last": 2}),
    (ways.leads_to, {"rules": RULES, "way": WAY, "one": "baa", "other": "b"}),
    (ways.format_way, {"way": WAY}),
    (ways.parse_way, {"rules": RULES, "text": "baa R1+0"}),
    (down.first_step, {"rules": RULES, "word": "baa"}),
    (down.is_last, {"rules": RULES, "word": "baa"}),
    (down.down_way, {"rules": RULES, "word": "baa"}),
    (down.last_word, {"rules": RULES, "word": "baa"}),
    (down.same_last, {"rules": RULES, "one": "baa", "other": "b"}),
    (down.normal_way, {"rules": RULES, "one": "baa", "other": "aab"}),
    (down.lower_words, {"rules": RULES, "word": "baa"}),
    (down.count_down, {"rules": RULES, "word": "baa"}),
    (down.longest_down, {"rules": RULES, "word": "baa"}),
    (down.all_meet, {"rules": RULES, "word": "baa"}),
    (overlaps.list_overlaps, {"rules": RULES}),
    (overlaps.is_overlap, {"rules": RULES, "overlap": OVERLAP}),
    (overlaps.meeting, {"rules": RULES, "word": "abaa", "one": (1, "R1", 1), "other": (1, "E", 2)}),
    (overlaps.open_overlaps, {"rules": Rules("ab", [("R1", "aba", "b")])}),
    (overlaps.is_complete, {"rules": RULES}),
]


class TestCalls(Calls, Case):

    CALLS = CALLS

    def test_headings(self):
        for call, given in CALLS:
            parameters = inspect.signature(call).parameters
            self.assertEqual(list(parameters), list(given), call)
            for name, parameter in parameters.items():
                star = name in ("width", "most") or (name == "weights" and call in (Rules, rules.orient))
                kind = inspect.Parameter.KEYWORD_ONLY if star else inspect.Parameter.POSITIONAL_OR_KEYWORD
                self.assertEqual(parameter.kind, kind, (call, name))
                default = inspect.Parameter.empty
                if star and name != "width":
                    default = 3 if name == "most" else None
                self.assertEqual(parameter.default, default, (call, name))

    def test_the_package_itself_has_no_names(self):
        names = [name for name in vars(wayfill) if not name.startswith("__")]
        self.assertEqual([name for name in names if not inspect.ismodule(getattr(wayfill, name))], [])


class TestRulesObjects(Case):

    def test_they_keep_no_list_that_they_were_passed(self):
        rows, weights = list(ROWS), [2, 3]
        made = Rules("ab", rows, weights=weights)
        oriented, turned = rules.orient("ab", rows, weights=weights)
        rows.reverse()
        rows.append(("?", "?", "?"))
        weights[0] = 99
        for some in [made, oriented]:
            self.assertEqual((some.rows, some.weights, some.names), (ROWS, [2, 3], ["R1", "E"]))
            self.assertEqual(some.rank_of("E"), 1)

    def test_their_lists_are_new_ones(self):
        made = Rules("ab", ROWS, weights=[2, 3])
        for _ in range(2):
            for told in [made.rows, made.weights, made.names, list(made)]:
                spoil(told)
        self.assertEqual(made, RULES)
        self.assertEqual((made.rows, made.weights, made.names, list(made)), (ROWS, [2, 3], ["R1", "E"], ROWS))

    def test_two_iterations_at_once(self):
        pairs = [(one[0], other[0]) for one in RULES for other in RULES]
        self.assertEqual(pairs, [("R1", "R1"), ("R1", "E"), ("E", "R1"), ("E", "E")])

    def test_an_error_changes_no_object(self):
        for call in [RULES.left_of, RULES.right_of, RULES.rank_of]:
            self.refuses(Unknown("?"), call, "?")
        self.assertEqual(RULES, Rules("ab", ROWS, weights=[2, 3]))

    def test_listed_methods_stand_in_the_class_itself(self):
        for name in ["letters", "weights", "rows", "names", "left_of", "right_of", "rank_of", "__len__", "__iter__",
                     "__contains__", "__eq__"]:
            self.assertIn(name, vars(Rules))


# For each call, each argument in order: a right value, a wrong one and the error of the wrong one.
# An argument without a wrong value is always right. Behind it the name of a last argument that is passed by name.
LETTERS = ("ab", "aa", BadLetters("aa"))
WEIGHTS = ([1, 2], [1], BadWeights())
WORD = ("ab", "?", BadWord("?"))
OTHER_WORD = ("ab", "!", BadWord("!"))
LONG_WORD = ("ab", "a" * 33, TooLong())
RIGHT_WAY = (WAY, ("baa", ((1, "R1", 0), (1, "R1", 0))), BadStep(1))
FROM_END = (("b", ()), ("b", ((1, "R9", 0),)), Unknown("R9"))
ON_ROWS = (ROWS, [("?", "", "")], BadName("?"))

ORDERS = [
    (words.word_weight, [LETTERS, WEIGHTS, WORD], None),
    (words.compare_words, [LETTERS, WEIGHTS, WORD, OTHER_WORD], None),
    (words.compare_words, [LETTERS, WEIGHTS, LONG_WORD, OTHER_WORD], None),
    (words.sort_words, [LETTERS, WEIGHTS, (["ab"], ["b", "?", "!"], BadWord("?"))], None),
    (Rules, [LETTERS, ON_ROWS, WEIGHTS], "weights"),
    (rules.orient, [LETTERS, ON_ROWS, WEIGHTS], "weights"),
    (rules.find_weights, [LETTERS, ON_ROWS, (3, 10, BadNumber(10))], "most"),
    (steps.do_step, [(RULES,), ("ba", "?", BadWord("?")), (STEP, (1, "R9", 0), Unknown("R9"))], None),
    (steps.do_step, [(RULES,), ("ba", "a" * 33, TooLong()), (STEP, (1, "R1", 1), BadStep(0))], None),
    (ways.join_ways, [(RULES,), RIGHT_WAY, FROM_END], None),
    (ways.set_way, [(RULES,), WORD, RIGHT_WAY, LONG_WORD], None),
    (ways.set_way, [(RULES,), LONG_WORD, RIGHT_WAY, WORD], None),
    (ways.cut_way, [(RULES,), RIGHT_WAY, (0, -1, BadNumber(-1)), (3, 9, BadNumber(9))], None),
    (down.same_last, [(RULES,), WORD, OTHER_WORD], None),
    (down.same_last, [(RULES,), LONG_WORD, OTHER_WORD], None),
    (down.normal_way, [(RULES,), WORD, OTHER_WORD], None),
    (down.normal_way, [(RULES,), LONG_WORD, OTHER_WORD], None),
    (overlaps.meeting, [(RULES,), ("baa", "?", BadWord("?")), (STEP, (1, "R9", 0), Unknown("R9")),
                        (STEP, (-1, "R1", 1), BadStep(1))], None),
]


class TestOrderOfErrors(Orders, Case):

    ORDERS = ORDERS

    def test_whole(self):
        for call in [whole.reduce_rows, whole.kernel_rows, whole.row_rank, whole.independent_rows]:
            self.refuses(TooMany(), call, [[]] * 101, width=-1)
            self.refuses(BadNumber(-1), call, [[1]], width=-1)
            self.refuses(BadRow(1), call, [[1], [], [1, 1]], width=1)

    def test_parse_word(self):
        self.refuses(BadLetters("aa"), words.parse_word, "aa", "?")
        self.refuses(BadText(1), words.parse_word, "ab", "?")

    def test_a_default_value_is_not_examined(self):
        self.assertEqual(Rules("abcdef", []).weights, [1] * 6)
        self.assertEqual(rules.orient("ab", [("R1", "", "a")])[0].weights, [1, 1])
        self.assertEqual(rules.find_weights("abcdef", []), [1] * 6)


class TestSizes(Case):

    LONG = "a" * 5000
    MANY = 10 ** 18 - 1

    def test_long_texts(self):
        self.judges(False, words.is_alphabet, self.LONG)
        self.judges(False, words.is_word, "a", self.LONG)
        self.judges(False, rules.is_name, self.LONG)
        self.assertEqual(words.format_word(self.LONG), self.LONG)
        self.assertEqual(words.places_of(self.LONG, self.LONG), [0])
        self.refuses(TooLong(), down.last_word, RULES, self.LONG)
        self.refuses(TooLong(), ways.check_way, RULES, (self.LONG, ()))

    def test_long_lists(self):
        self.assertEqual(len(words.sort_words("a", [1], ["a"] * 1000)), 1000)
        self.refuses(BadWeights(), words.word_weight, "a", [1] * 1000, "a")
        self.refuses(TooMany(), Rules, "a", [("R1", "a", "")] * 1000)
        self.refuses(TooMany(), whole.row_rank, [[1]] * 1000, width=1)
        self.refuses(BadNumber(1000), whole.express, [[1] * 1000], [1] * 1000)
        self.judges(False, whole.is_expression, [[1] * 1000] * 1000, [1] * 1000, (1, [1] * 1000))
        self.judges(False, ways.is_way, RULES, ("ba", (STEP,) * 1000))

    def test_large_numbers(self):
        for number in [self.MANY, -self.MANY]:
            self.refuses(BadWeights(), words.word_weight, "a", [number], "a")
            self.refuses(BadNumber(number), whole.row_rank, [], width=number)
            self.refuses(BadNumber(number), rules.find_weights, "a", [], most=number)
            self.refuses(BadNumber(number), ways.cut_way, RULES, WAY, number, number)
            self.assertEqual(steps.shift_step((1, "R1", number), number), (1, "R1", 2 * number))
            self.judges(False, steps.fits, RULES, "ba", (1, "R1", number))
            self.judges(False, steps.fits, RULES, "ba", (-1, "E", number))
            self.judges(False, steps.fits, RULES, "ba", (number, "R1", 0))
            self.judges(False, overlaps.is_overlap, RULES, ("baa", (1, "R1", 0), (1, "E", number)))

    def test_every_character(self):
        every = "".join(bytes([code]).decode() for code in range(32, 127) if code != 37)
        self.refuses(BadLetters(every), words.parse_word, every, "a")
        self.refuses(BadWord(every), down.first_step, RULES, every)
        for character in every:
            self.judges("a" <= character <= "z", words.is_alphabet, character)
            self.judges(character in "ab", words.is_word, "ab", character)
            self.judges(character.isupper(), rules.is_name, character)
            self.judges(character.isupper() or character.isdigit(), rules.is_name, "A" + character)


class TestJudges(Case):

    TEXTS = ["", "a", "b", "ab", "ba", "baa", "aa", "c", "A", "-", " ", "R1", "E", "R9", "1R",
             "a" * 32, "a" * 33, "?" * 5000]
    NUMBERS = [0, 1, 2, -1, -2, 5, 31, 10 ** 17, -10 ** 17]

    def setUp(self):
        self.luck = random.Random(11)

    def text(self):
        return self.luck.choice(self.TEXTS)

    def number(self):
        return self.luck.choice(self.NUMBERS)

    def step(self):
        return self.luck.choice([1, -1, self.number()]), self.luck.choice(["R1", "E", self.text()]), self.number()

    def way(self):
        return self.text(), tuple(self.step() for _ in range(self.luck.choice([0, 1, 2, 121])))

    def numbers(self):
        return [self.number() for _ in range(self.luck.choice([0, 1, 2, 3, 25]))]

    def rows(self):
        return [self.numbers() for _ in range(self.luck.choice([0, 1, 2, 101]))]

    def test_they_raise_nothing(self):
        for _ in range(3000):
            for answer in [words.is_alphabet(self.text()), words.is_word(self.text(), self.text()),
                           rules.is_name(self.text()),
                           whole.is_expression(self.rows(), self.numbers(), (self.number(), self.numbers())),
                           steps.fits(RULES, self.text(), self.step()), ways.is_way(RULES, self.way()),
                           ways.leads_to(RULES, self.way(), self.text(), self.text()),
                           overlaps.is_overlap(RULES, (self.text(), self.step(), self.step()))]:
                self.assertIn(answer, (True, False))
                self.assertIsInstance(answer, bool)

    def test_they_agree_with_the_functions_that_raise(self):
        for _ in range(3000):
            word, step, way = self.text(), self.step(), self.way()
            self.assertEqual(steps.fits(RULES, word, step), self.succeeds(steps.do_step, word, step))
            self.assertEqual(ways.is_way(RULES, way), self.succeeds(ways.check_way, way))

    def succeeds(self, call, *args):
        try:
            call(RULES, *args)
        except WayfillError:
            return False
        return True


if __name__ == "__main__":
    unittest.main()
