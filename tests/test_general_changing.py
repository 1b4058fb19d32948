"""Points 2 to 5 for needs.py, completion.py, carrying.py and changes.py."""

import random
import unittest

from helpers import Calls, Case, Orders
from wayfill import carrying, changes, completion, needs
from wayfill.errors import BadChange, BadEnds, BadLog, BadNumber, BadSquare, BadWord, TooMany, Unknown
from wayfill.rules import Rules
from wayfill.squares import plain_squares

RULES = Rules("ab", [("R1", "ab", "a"), ("R2", "ab", "b")])
FINAL, LOG = completion.complete(RULES)
PLAIN = plain_squares(FINAL)
LEGS = [("ab", ((1, name, 0),)) for name in RULES.names]
LOOP = ("ab", ((1, "R1", 0), (-1, "R1", 0)))
SQUARES = [("A", LEGS[0], LEGS[0]), ("B", LOOP, ("ab", ()))]
CHANGE = ("add rule", "N", "b", "a", LOG[0][4])
DROP = ("drop rule", "N", LOG[0][4])
CHANGED = changes.change_rules(RULES, CHANGE)
NEW_LEG = ("b", ((1, "N", 0),))

CALLS = [
    (needs.least_needed, "(rules, squares)", {"rules": RULES, "squares": SQUARES}),
    (needs.base_squares, "(rules, squares)", {"rules": RULES, "squares": SQUARES}),
    (needs.without_square, "(squares, name)", {"squares": SQUARES, "name": "A"}),
    (needs.follows, "(rules, squares, name)", {"rules": RULES, "squares": SQUARES, "name": "A"}),
    (needs.thin, "(rules, squares)", {"rules": RULES, "squares": SQUARES}),
    (completion.complete, "(rules, *, most=6)", {"rules": RULES, "most": 3}),
    (completion.log_fault, "(rules, log)", {"rules": RULES, "log": LOG}),
    (completion.is_log, "(rules, log)", {"rules": RULES, "log": LOG}),
    (completion.log_rules, "(rules, log)", {"rules": RULES, "log": LOG}),
    (carrying.write_out, "(rules, log, way)", {"rules": RULES, "log": LOG, "way": ("aa", ((1, "N2", 0),))}),
    (carrying.write_in, "(rules, log, way)", {"rules": RULES, "log": LOG, "way": LEGS[0]}),
    (carrying.carry_squares, "(rules, log, squares)", {"rules": RULES, "log": LOG, "squares": PLAIN}),
    (carrying.carried_filling, "(rules, log, squares, way)",
     {"rules": RULES, "log": LOG, "squares": PLAIN, "way": LEGS[0]}),
    (carrying.carried_between, "(rules, log, squares, one, other)",
     {"rules": RULES, "log": LOG, "squares": PLAIN, "one": LOOP, "other": ("ab", ())}),
    (changes.can_change, "(rules, change)", {"rules": RULES, "change": CHANGE}),
    (changes.change_rules, "(rules, change)", {"rules": RULES, "change": CHANGE}),
    (changes.opposite, "(rules, change)", {"rules": RULES, "change": CHANGE}),
    (changes.carry_word, "(rules, change, word)", {"rules": CHANGED, "change": DROP, "word": "ab"}),
    (changes.carry_way, "(rules, change, way)", {"rules": CHANGED, "change": DROP, "way": NEW_LEG}),
    (changes.bring_word, "(rules, change, word)", {"rules": RULES, "change": CHANGE, "word": "ab"}),
    (changes.bring_way, "(rules, change, way)", {"rules": RULES, "change": CHANGE, "way": NEW_LEG}),
    (changes.change_squares, "(rules, change, squares)", {"rules": RULES, "change": CHANGE, "squares": SQUARES}),
    (changes.bring_squares, "(rules, change, squares)",
     {"rules": RULES, "change": CHANGE, "squares": [("S", NEW_LEG, NEW_LEG)]}),
    (changes.change_all, "(rules, changes)", {"rules": RULES, "changes": [CHANGE, DROP]}),
    (changes.carry_along, "(rules, changes, way)", {"rules": RULES, "changes": [CHANGE, DROP], "way": LOOP}),
    (changes.bring_along, "(rules, changes, way)", {"rules": RULES, "changes": [CHANGE], "way": NEW_LEG}),
]

ON_RULES = (RULES,)
WRONG_SQUARES = [("q", ("?", ()), ("?", ()))]
ON_SQUARES = (SQUARES, WRONG_SQUARES, BadSquare("q"))
ON_FINAL_SQUARES = (PLAIN, SQUARES, BadSquare("A"))
ON_LOG = (LOG, LOG[:2] + LOG[:1], BadLog(2))
ON_WAY = (LEGS[0], ("?", ()), BadWord("?"))
ON_FINAL_WAY = (("aa", ((1, "N2", 0),)), LEGS[0], Unknown("R1"))
ON_CHANGE = (CHANGE, ("?",), BadChange(0))
ON_CHANGES = ([CHANGE], [CHANGE, CHANGE], BadChange(1))
MANY_CHANGES = ([CHANGE], [("?",)] * 13, TooMany())
ON_CHANGED_WAY = (NEW_LEG, ("b", ((1, "N9", 0),)), Unknown("N9"))

ORDERS = [
    (needs.follows, [ON_RULES, ON_SQUARES, ("A", "C", Unknown("C"))], None),
    (needs.thin, [ON_RULES, (SQUARES, WRONG_SQUARES * 13, TooMany())], None),
    (completion.complete, [ON_RULES, (8, 9, BadNumber(9))], "most"),
    (carrying.write_out, [ON_RULES, ON_LOG, ON_FINAL_WAY], None),
    (carrying.write_in, [ON_RULES, ON_LOG, ON_WAY], None),
    (carrying.carry_squares, [ON_RULES, ON_LOG, ON_FINAL_SQUARES], None),
    (carrying.carried_filling, [ON_RULES, ON_LOG, ON_FINAL_SQUARES, ON_WAY], None),
    (carrying.carried_between, [ON_RULES, ON_LOG, ON_FINAL_SQUARES, ON_WAY, (LEGS[0], LOOP, BadEnds())], None),
    (carrying.carried_between, [ON_RULES, ON_LOG, ON_FINAL_SQUARES, ON_WAY, (LEGS[0], ("!", ()), BadWord("!"))], None),
    (changes.carry_word, [ON_RULES, ON_CHANGE, ("ab", "?", BadWord("?"))], None),
    (changes.bring_word, [ON_RULES, ON_CHANGE, ("ab", "?", BadWord("?"))], None),
    (changes.carry_way, [ON_RULES, ON_CHANGE, ON_WAY], None),
    (changes.bring_way, [ON_RULES, ON_CHANGE, ON_CHANGED_WAY], None),
    (changes.change_squares, [ON_RULES, ON_CHANGE, ON_SQUARES], None),
    (changes.bring_squares, [ON_RULES, ON_CHANGE, ON_SQUARES], None),
    (changes.carry_along, [ON_RULES, ON_CHANGES, ON_WAY], None),
    (changes.bring_along, [ON_RULES, MANY_CHANGES, ON_CHANGED_WAY], None),
]


class TestCalls(Calls, Case):

    CALLS = CALLS

    def test_the_default_of_most(self):
        self.assertEqual(completion.complete(RULES), completion.complete(RULES, most=6))


class TestOrderOfErrors(Orders, Case):

    ORDERS = ORDERS


class TestJudges(Case):

    TEXTS = ["", "a", "b", "ab", "ba", "c", "A", "R1", "R2", "N", "N1", "N2", "1R", "?", "a" * 8, "a" * 33, "?" * 5000]
    NUMBERS = [0, 1, 2, -1, 99, 100, 10 ** 17, -10 ** 17]
    KINDS = ["add", "drop", "add letter", "drop letter", "add rule", "drop rule", "", "?"]

    def setUp(self):
        self.luck = random.Random(14)

    def text(self):
        return self.luck.choice(self.TEXTS)

    def number(self):
        return self.luck.choice(self.NUMBERS)

    def step(self):
        return self.luck.choice([1, -1, self.number()]), self.text(), self.number()

    def way(self):
        if self.luck.random() < 0.5:
            return self.luck.choice([LOG[0][4], LOG[1][4], LEGS[0], LOOP])
        return self.text(), tuple(self.step() for _ in range(self.luck.choice([0, 1, 2, 121])))

    def entry(self):
        return self.luck.choice(LOG + [(self.luck.choice(["add", "drop", "?", "add rule"]), self.text(), self.text(),
                                        self.text(), self.way()), ("?",)])

    def change(self):
        return self.luck.choice([("add letter", self.text(), self.number(), self.text(), self.text()),
                                 ("drop letter", self.text()), ("drop rule", self.text(), self.way()),
                                 ("add rule", self.text(), self.text(), self.text(), self.way()),
                                 (self.luck.choice(["", "add", "drop", "?"]), self.text())])

    def test_they_raise_nothing(self):
        for _ in range(2000):
            log = [self.entry() for _ in range(self.luck.choice([0, 1, 2, 3, 25]))]
            fault = completion.log_fault(RULES, log)
            self.assertIs(completion.is_log(RULES, log), fault is None)
            change = self.change()
            can = changes.can_change(RULES, change)
            self.assertIsInstance(can, bool)
            if can:
                changes.change_rules(RULES, change)
            else:
                self.refuses(BadChange(0), changes.change_rules, RULES, change)


if __name__ == "__main__":
    unittest.main()
