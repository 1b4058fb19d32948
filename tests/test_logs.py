"""Point 79: the logs of completion.py, and BadLog in every function that takes a log."""

import random
import unittest

from helpers import Case
from wayfill.carrying import carried_between, carried_filling, carry_squares, write_in, write_out
from wayfill.completion import complete, is_log, log_fault, log_rules
from wayfill.errors import BadLog, WayfillError
from wayfill.rules import Rules

RULES = Rules("ab", [("R1", "ab", "a"), ("R2", "ab", "b")])
FINAL, LOG = complete(RULES)
ADD, SECOND, DROP, LAST = LOG
HUGE = 10 ** 18 - 1

TAKERS = [
    log_rules,
    lambda rules, log: write_out(rules, log, ("?", ())),
    lambda rules, log: write_in(rules, log, ("?", ())),
    lambda rules, log: carry_squares(rules, log, [("?", ("?", ()), ("", ()))]),
    lambda rules, log: carried_filling(rules, log, [("?", ("?", ()), ("", ()))], ("?", ())),
    lambda rules, log: carried_between(rules, log, [("?", ("?", ()), ("", ()))], ("?", ()), ("!", ())),
]


def replaced(entry, **parts):
    """The entry with some other parts."""
    names = ["kind", "name", "left", "right", "way"]
    return tuple(parts.get(name, part) for name, part in zip(names, entry))


class LogCase(Case):

    def right(self, rules, log):
        self.assertIsNone(log_fault(rules, log))
        self.judges(True, is_log, rules, log)
        return log_rules(rules, log)

    def wrong(self, rules, log, at):
        self.assertEqual(log_fault(rules, log), at)
        self.judges(False, is_log, rules, log)
        for call in TAKERS:
            self.refuses(BadLog(at), call, rules, log)


class TestRightLogs(LogCase):

    def test_the_log_of_a_completion(self):
        self.assertEqual([entry[0] for entry in LOG], ["add", "add", "drop", "drop"])
        self.assertEqual(self.right(RULES, LOG), FINAL)
        actives = [["R1", "R2"], ["R1", "R2", "N1"], ["R1", "R2", "N1", "N2"], ["R1", "N1", "N2"], ["N1", "N2"]]
        for many in range(5):
            self.assertEqual(self.right(RULES, LOG[:many]).names, actives[many])

    def test_the_empty_log(self):
        self.assertEqual(self.right(RULES, []), RULES)
        self.assertEqual(self.right(Rules("ab", []), []), Rules("ab", []))

    def test_alphabet_and_weights(self):
        rules = Rules("ba", [("R1", "ab", "a"), ("R2", "ab", "b")], weights=[7, 3])
        final, log = complete(rules)
        self.assertEqual((final.letters, final.weights), ("ba", [7, 3]))
        self.assertEqual(self.right(rules, log), final)

    def test_the_final_rules_need_not_be_complete(self):
        self.assertEqual(self.right(RULES, [ADD]).names, ["R1", "R2", "N1"])

    def test_any_way_is_a_reason(self):
        longer = replaced(ADD, way=("b", ((-1, "R2", 0), (1, "R2", 0)) * 59 + ADD[4][1]))
        self.assertEqual(len(longer[4][1]), 120)
        self.right(RULES, [longer])
        self.right(RULES, [replaced(ADD, name="Z9999999")])

    def test_an_added_rule_is_dropped(self):
        gone = ("drop", "N1", "b", "a", ("b", ((-1, "R2", 0), (1, "R1", 0))))
        self.assertEqual(self.right(RULES, [ADD, gone]), RULES)


class TestWrongAdds(LogCase):

    def test_other_kinds(self):
        for kind in ["", "Add", "added", "change", "drop ", "?"]:
            self.wrong(RULES, [replaced(ADD, kind=kind)], 0)
            self.wrong(RULES, [ADD, replaced(SECOND, kind=kind), DROP], 1)
            self.wrong(RULES, [(kind,)], 0)
            self.wrong(RULES, [ADD, (kind, "?", 3)], 1)

    def test_names(self):
        for name in ["", "n1", "1N", "N" * 9, "N 1", "R1", "R2"]:
            self.wrong(RULES, [replaced(ADD, name=name)], 0)
        self.wrong(RULES, [ADD, ADD], 1)
        self.wrong(RULES, [ADD, replaced(SECOND, name="N1")], 1)

    def test_names_that_were_dropped(self):
        gone = ("drop", "N1", "b", "a", ("b", ((-1, "R2", 0), (1, "R1", 0))))
        self.wrong(RULES, [ADD, gone, ADD], 2)
        self.assertEqual(self.right(RULES, [ADD, gone, replaced(ADD, name="N2")]).names, ["R1", "R2", "N2"])
        first = Rules("ab", [("A", "a", ""), ("B", "a", ""), ("C", "aa", "a")])
        log = [("drop", "B", "a", "", ("a", ((1, "A", 0),))), ("add", "B", "a", "", ("a", ((1, "A", 0),)))]
        self.wrong(first, log, 1)

    def test_sides(self):
        rules = Rules("ab", [("E", "a", "")])
        put, out = (-1, "E", 0), (1, "E", 0)
        self.right(rules, [("add", "N", "a" * 8, "", ("a" * 8, (out,) * 8))])
        self.wrong(rules, [("add", "N", "a" * 9, "", ("a" * 9, (out,) * 9))], 0)
        self.wrong(rules, [("add", "N", "a" * 10, "a" * 9, ("a" * 10, (out,)))], 0)
        self.wrong(rules, [("add", "N", "ac", "c", ("ac", (out,)))], 0)
        self.wrong(rules, [("add", "N", "a", "?", ("a", (out,)))], 0)
        # The left side is not greater.
        self.wrong(rules, [("add", "N", "a", "aa", ("a", (put,)))], 0)
        self.wrong(rules, [("add", "N", "", "a", ("", (put,)))], 0)
        self.wrong(rules, [("add", "N", "a", "a", ("a", ()))], 0)
        self.wrong(rules, [("add", "N", "", "", ("", ()))], 0)
        self.right(rules, [("add", "N", "ba", "ab", ("ba", ((1, "E", 1), (-1, "E", 0))))])
        self.wrong(rules, [("add", "N", "ab", "ba", ("ab", ((1, "E", 0), (-1, "E", 1))))], 0)

    def test_the_way(self):
        for way in [("b", ()), ("a", ()), ("b", ADD[4][1][:1]), ("b", ADD[4][1] + ((-1, "R2", 0),)),
                    ("a", ((-1, "R1", 0), (1, "R2", 0))), ("b", ((-1, "R9", 0),)), ("?", ()),
                    ("b", ((-1, "R2", 0), (1, "R1", 1))), ("b", ((1, "N1", 0),)),
                    ("b", ((-1, "R2", 0), (1, "R2", 0)) * 60 + ADD[4][1])]:
            self.wrong(RULES, [replaced(ADD, way=way)], 0)

    def test_a_way_over_rules_that_are_not_active_any_more(self):
        self.right(RULES, LOG[:3] + [("add", "N3", "b", "a", ("b", ((1, "N1", 0),)))])
        self.wrong(RULES, LOG[:3] + [("add", "N3", "b", "a", ADD[4])], 3)
        self.wrong(RULES, [replaced(SECOND, name="N2")], 0)

    def test_12_rules_and_a_13th_one(self):
        rules = Rules("ab", [(f"R{at}", "ab", "a") for at in range(11)])
        entry = ("add", "N1", "ab", "a", ("ab", ((1, "R0", 0),)))
        self.assertEqual(len(self.right(rules, [entry])), 12)
        self.wrong(rules, [entry, replaced(entry, name="N2")], 1)
        gone = ("drop", "R1", "ab", "a", ("ab", ((1, "R0", 0),)))
        self.assertEqual(len(self.right(rules, [entry, gone, replaced(entry, name="N2")])), 12)
        # The added rule is the last active one.
        self.assertEqual(log_rules(rules, [entry, gone, replaced(entry, name="N2")]).names[-2:], ["N1", "N2"])


class TestWrongDrops(LogCase):

    RULES = Rules("ab", [("A", "ab", "a"), ("B", "ab", "a"), ("C", "aab", "aa")])
    DROP = ("drop", "B", "ab", "a", ("ab", ((1, "A", 0),)))

    def test_names(self):
        self.assertEqual(self.right(self.RULES, [self.DROP]).names, ["A", "C"])
        for name in ["", "D", "b", "?"]:
            self.wrong(self.RULES, [replaced(self.DROP, name=name)], 0)
        self.wrong(self.RULES, [self.DROP, self.DROP], 1)

    def test_sides(self):
        for parts in [{"left": "aab"}, {"right": "aa"}, {"right": ""}, {"left": ""}, {"left": "?"},
                      {"left": "aab", "right": "aa"}, {"left": "a", "right": "ab"}]:
            self.wrong(self.RULES, [replaced(self.DROP, **parts)], 0)
        # Also where the way leads from the one to the other.
        self.wrong(self.RULES, [("drop", "B", "aab", "aa", ("aab", ((1, "A", 1),)))], 0)

    def test_the_way(self):
        for way in [("ab", ((1, "B", 0),)), ("ab", ()), ("a", ()), ("aab", ((1, "A", 1),)), ("a", ((-1, "A", 0),)),
                    ("ab", ((1, "A", 0), (-1, "B", 0), (1, "A", 0))), ("ab", ((1, "D", 0),)), ("?", ()),
                    ("ab", ((1, "A", 0), (-1, "A", 0)) * 60 + ((1, "A", 0),))]:
            self.wrong(self.RULES, [replaced(self.DROP, way=way)], 0)
        self.right(self.RULES, [replaced(self.DROP, way=("ab", ((1, "A", 0), (-1, "A", 0)) * 59 + ((1, "A", 0),)))])

    def test_the_rule_is_gone_afterwards(self):
        self.right(self.RULES, [self.DROP, ("drop", "C", "aab", "aa", ("aab", ((1, "A", 1),)))])
        self.wrong(self.RULES, [self.DROP, ("drop", "C", "aab", "aa", ("aab", ((1, "B", 1),)))], 1)
        self.wrong(self.RULES, [self.DROP, ("drop", "A", "ab", "a", ("ab", ((1, "B", 0),)))], 1)


class TestLengths(LogCase):

    def entries(self, many):
        """A right log, if it is not too long: rules come and go in turn."""
        log = []
        for at in range(many):
            kind = "drop" if at % 2 else "add"
            log.append((kind, f"N{at // 2}", "ab", "a", ("ab", ((1, "R1", 0),))))
        return log

    def test_24_and_25_entries(self):
        self.assertEqual(self.right(RULES, self.entries(24)), RULES)
        self.wrong(RULES, self.entries(25), 24)
        self.wrong(RULES, self.entries(26) + [("?",)] * 900, 24)
        log = self.entries(30)
        log[7] = ("?",)
        self.wrong(RULES, log, 7)

    def test_the_first_wrong_entry(self):
        self.wrong(RULES, LOG[:2] + [ADD, ADD], 2)
        self.wrong(RULES, LOG[1:], 0)
        self.wrong(RULES, [LOG[0], LOG[2]] + LOG, 2)
        self.wrong(RULES, LOG + LOG, 4)


class TestJudging(LogCase):

    def test_any_entries(self):
        luck = random.Random(47)
        texts = ["", "a", "b", "ab", "aa", "R1", "R2", "N1", "N2", "N3", "?", "a" * 9]
        for _ in range(3000):
            log = []
            for entry in LOG[:luck.randrange(5)]:
                if luck.random() < 0.2:
                    part = luck.choice(["name", "left", "right"])
                    entry = replaced(entry, **{part: luck.choice(texts)})
                if luck.random() < 0.1:
                    way = luck.choice([("b", ()), ("ab", ((luck.choice([1, 3, HUGE]), luck.choice(texts), HUGE),))])
                    entry = replaced(entry, way=way)
                log.append(entry)
            fault = log_fault(RULES, log)
            self.judges(fault is None, is_log, RULES, log)
            self.assertEqual(fault, self.fault_of(RULES, log))

    def fault_of(self, rules, log):
        try:
            log_rules(rules, log)
        except BadLog as error:
            return error.at
        except WayfillError:
            self.fail("another error")
        return None


if __name__ == "__main__":
    unittest.main()
