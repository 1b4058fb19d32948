"""Points 2 to 5 for translations.py, listing.py, apart.py and sums.py."""

import random
import unittest

from helpers import Calls, Case, Orders
from wayfill import apart, listing, sums, translations
from wayfill.errors import BadLetters, BadNumber, BadRow, BadTable, BadTranslation, BadWord, TooMany
from wayfill.rules import Rules

RULES = Rules("ab", [("R1", "ba", "ab"), ("R2", "aa", "")])
TABLED = Rules("ab", [("R1", "ba", "ab"), ("R2", "aaa", ""), ("R3", "bb", "")])
TABLE = listing.class_table(TABLED)
ROWS = translations.find_translation(RULES, RULES)
WAY = ("ba", ((1, "R1", 0), (-1, "R1", 0)))
COUNT = ("count", [0, 1], 1, 2)
SUM = sums.Sum(RULES, [(2, "ba"), (1, "b")])

CALLS = [
    (translations.find_translation, "(source, target)", {"source": RULES, "target": RULES}),
    (translations.is_translation, "(source, target, rows)", {"source": RULES, "target": RULES, "rows": ROWS}),
    (translations.translate_way, "(source, target, rows, way)",
     {"source": RULES, "target": RULES, "rows": ROWS, "way": WAY}),
    (translations.both_translations, "(one, other)", {"one": RULES, "other": RULES}),
    (listing.list_last, "(rules, *, many)", {"rules": RULES, "many": 20}),
    (listing.count_last, "(rules, *, most)", {"rules": RULES, "most": 20}),
    (listing.class_number, "(rules)", {"rules": TABLED}),
    (listing.class_table, "(rules)", {"rules": TABLED}),
    (listing.is_class_table, "(rules, table)", {"rules": TABLED, "table": TABLE}),
    (listing.walk_table, "(rules, table, start, word)", {"rules": TABLED, "table": TABLE, "start": 2, "word": "ba"}),
    (listing.multiply_table, "(rules, table)", {"rules": TABLED, "table": TABLE}),
    (apart.count_of, "(rules, row, word)", {"rules": RULES, "row": [0, 1], "word": "ba"}),
    (apart.is_kept, "(rules, row)", {"rules": RULES, "row": [0, 1]}),
    (apart.kept_rows, "(rules)", {"rules": RULES}),
    (apart.compare_classes, "(rules, one, other)", {"rules": RULES, "one": "ba", "other": "bba"}),
    (apart.compare_classes, "(rules, one, other)", {"rules": RULES, "one": "ba", "other": "ab"}),
    (apart.is_paper, "(rules, one, other, paper)", {"rules": RULES, "one": "b", "other": "bb", "paper": COUNT}),
    (sums.Sum, {"rules": RULES, "terms": [(2, "ba"), (1, "b")]}),
    (SUM.number_of, "(word)", {"word": "ba"}),
    (SUM.times, "(number)", {"number": 3}),
    (lambda: SUM.terms, {}),
    (lambda: list(SUM), {}),
    (lambda: (SUM + SUM).terms, {}),
    (lambda: (SUM * SUM).terms, {}),
]

ON_RULES = (RULES,)
OTHER = Rules("ba", [("R1", "ab", "ba")])
ON_TABLE = (TABLE, (TABLE[0], TABLE[1][:1]), BadTable())
ON_WORD = ("ba", "b?", BadWord("b?"))

ORDERS = [
    (translations.find_translation, [ON_RULES, (RULES, OTHER, BadLetters("ba"))], None),
    (translations.both_translations, [ON_RULES, (RULES, OTHER, BadLetters("ba"))], None),
    (translations.translate_way, [ON_RULES, (RULES, OTHER, BadLetters("ba")), (ROWS, ROWS[:1], BadTranslation()),
                                  (WAY, ("?", ()), BadWord("?"))], None),
    (listing.list_last, [ON_RULES, (400, 401, BadNumber(401))], "many"),
    (listing.count_last, [ON_RULES, (32, 33, BadNumber(33))], "most"),
    (listing.class_table, [(TABLED, RULES, TooMany())], None),
    (listing.walk_table, [(TABLED,), ON_TABLE, (5, 6, BadNumber(6)), ON_WORD], None),
    (listing.multiply_table, [(TABLED,), ON_TABLE], None),
    (apart.count_of, [ON_RULES, ([1, 2], [1], BadRow(0)), ON_WORD], None),
    (apart.compare_classes, [ON_RULES, ON_WORD, ("a", "c", BadWord("c"))], None),
]


class TestCalls(Calls, Case):

    CALLS = [row for row in CALLS if row[0].__name__ != "<lambda>"]


class TestNewLists(Calls, Case):

    CALLS = [row for row in CALLS if row[0].__name__ == "<lambda>"]

    test_modules_define_what_they_list = None


class TestOrderOfErrors(Orders, Case):

    ORDERS = ORDERS


class TestDefinitions(Case):

    def test_sum_defines_its_methods_itself(self):
        for name in ["__init__", "rules", "terms", "number_of", "times", "__add__", "__sub__", "__neg__", "__mul__",
                     "__eq__", "__len__", "__iter__", "__bool__", "__contains__"]:
            self.assertIn(name, vars(sums.Sum))


class TestJudges(Case):

    TEXTS = ["", "a", "b", "ab", "ba", "bb", "c", "A", "R1", "R2", "same", "count", "last", "unknown", "?", "a" * 32,
             "a" * 33, "?" * 5000]
    NUMBERS = [0, 1, 2, 3, 5, -1, 6, 25, 10 ** 17, -10 ** 17]

    def setUp(self):
        self.luck = random.Random(15)

    def text(self):
        return self.luck.choice(self.TEXTS)

    def number(self):
        return self.luck.choice(self.NUMBERS)

    def numbers(self):
        return [self.number() for _ in range(self.luck.choice([0, 1, 2, 2, 2, 3, 1000]))]

    def way(self):
        many = self.luck.choice([1, 2, 121])
        steps = [(self.luck.choice([1, -1, 5]), self.text(), self.number()) for _ in range(many)]
        return self.luck.choice([WAY, ROWS[0][1], ROWS[1][1], (self.text(), tuple(steps)), (self.text(), ())])

    def rows(self):
        rows = [self.luck.choice(ROWS + [(self.text(), self.way())]) for _ in range(self.luck.choice([0, 1, 2, 2, 3]))]
        return self.luck.choice([ROWS, rows, rows])

    def table(self):
        words, rows = list(TABLE[0]), [list(row) for row in TABLE[1]]
        words[self.luck.randrange(6)] = self.luck.choice(words + [self.text()])
        row = self.luck.choice(rows)
        row[self.luck.randrange(2)] = self.luck.choice(row + [self.number()])
        if self.luck.random() < 0.3:
            rows[self.luck.randrange(6)] = self.numbers()
        return words[:self.luck.choice([6, 6, 6, 5, 0])], rows[:self.luck.choice([6, 6, 6, 5, 0])]

    def paper(self):
        return self.luck.choice([("same", self.way()), ("count", self.numbers(), self.number(), self.number()), COUNT,
                                 ("last", self.text(), self.text()), ("unknown",), (self.text() + "?", self.way())])

    def test_they_raise_nothing(self):
        found = {"translation": 0, "table": 0, "kept": 0, "paper": 0}
        for _ in range(3000):
            judged = {"translation": translations.is_translation(RULES, self.luck.choice([RULES, OTHER]), self.rows()),
                      "table": listing.is_class_table(TABLED, self.table()),
                      "kept": apart.is_kept(RULES, self.numbers()),
                      "paper": apart.is_paper(RULES, self.text(), self.text(), self.paper())}
            for name, answer in judged.items():
                self.assertIsInstance(answer, bool)
                found[name] += answer
        self.assertTrue(all(found.values()), found)


if __name__ == "__main__":
    unittest.main()
