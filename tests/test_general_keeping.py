"""Points 2 to 4 for shorten.py, gaps.py, script.py, machine.py and book.py."""

import unittest

from helpers import Calls, Case, Orders
from wayfill import book, gaps, machine, script, shorten
from wayfill.errors import BadEntry, BadLetters, BadNumber, BadSquare, BadText, BadWeights, BadWord, Stopped, TooLong
from wayfill.errors import TooMany, Unknown
from wayfill.rules import Rules
from wayfill.squares import plain_squares

RULES = Rules("ab", [("R1", "ba", "ab"), ("R2", "aa", "")])
SQUARES = plain_squares(RULES)
ON, BACK = (1, "R1", 0), (-1, "R1", 0)
WAY = ("ba", (ON, BACK))
GAPS = [ON, None]
TEXT = "each :a : { until last { on R1 first } }"
ROWS = [("rule", "R1", "ba", "ab"), ("way", "A", WAY), ("way", "B", ("ba", ())),
        ("moves", "M", "A", [("drop", 0)], "B"), ("square", "Q", WAY, ("ba", ()))]
RUN = machine.Machine(RULES, squares=SQUARES)
KEPT = book.Book.replay("ab", ROWS)
OTHER = book.Book.replay("ab", ROWS[:1] + [("way", "N", ("", ()))])

CALLS = [
    (shorten.shorten, "(rules, way)", {"rules": RULES, "way": WAY}),
    (shorten.move_layers, "(rules, squares, way, *, steps, depth)",
     {"rules": RULES, "squares": SQUARES, "way": WAY, "steps": 2, "depth": 2}),
    (shorten.least_moves, "(rules, squares, one, other, *, steps, depth)",
     {"rules": RULES, "squares": SQUARES, "one": WAY, "other": ("ba", ()), "steps": 2, "depth": 2}),
    (shorten.least_row, "(rules, squares, one, other, *, steps, depth)",
     {"rules": RULES, "squares": SQUARES, "one": ("ba", ()), "other": WAY, "steps": 2, "depth": 2}),
    (gaps.count_ways, "(rules, begin, end, *, steps)", {"rules": RULES, "begin": "ba", "end": "ba", "steps": 4}),
    (gaps.way_at, "(rules, begin, end, rank, *, steps)",
     {"rules": RULES, "begin": "ba", "end": "ba", "rank": 3, "steps": 4}),
    (gaps.way_rank, "(rules, way)", {"rules": RULES, "way": WAY}),
    (gaps.compare_ways, "(rules, one, other)",
     {"rules": RULES, "one": WAY, "other": ("ba", ((-1, "R2", 0), (1, "R2", 0)))}),
    (gaps.first_misfit, "(rules, begin, row)", {"rules": RULES, "begin": "ba", "row": GAPS}),
    (gaps.fill_gaps, "(rules, begin, row, end)", {"rules": RULES, "begin": "ba", "row": GAPS, "end": "ba"}),
    (gaps.mend, "(rules, begin, row, end)", {"rules": RULES, "begin": "ba", "row": GAPS, "end": "ba"}),
    (script.parse_script, "(text)", {"text": TEXT}),
    (script.format_script, "(statements)", {"statements": script.parse_script(TEXT)}),
    (book.audit, "(letters, rows, *, weights=None)", {"letters": "ab", "rows": ROWS, "weights": [1, 2]}),
    (book.compare_books, "(one, other)", {"one": KEPT, "other": OTHER}),
    (book.Book.replay, {"letters": "ab", "rows": ROWS, "weights": [1, 2]}),
    (book.Book, {"letters": "ab", "weights": [1, 2]}),
    (KEPT.way_of, "(name)", {"name": "A"}),
    (KEPT.square_of, "(name)", {"name": "Q"}),
    (KEPT.moves_of, "(name)", {"name": "M"}),
    (KEPT.link, "(start, goal)", {"start": "A", "goal": "B"}),
    (KEPT.twin, "()", {}),
]

PROPERTIES = [
    (lambda: RUN.squares, {}),
    (lambda: RUN.shown, {}),
    (lambda: RUN.rules.rows, {}),
    (lambda: RUN.way, {}),
    (lambda: KEPT.weights, {}),
    (lambda: KEPT.rows, {}),
    (lambda: KEPT.rules.rows, {}),
    (lambda: KEPT.squares, {}),
    (lambda: KEPT.names, {}),
]

ON_RULES = (RULES,)
ON_SQUARES = (SQUARES, [("q", ("?", ()), ("?", ()))], BadSquare("q"))
ON_WAY = (WAY, ("?", ()), BadWord("?"))
ON_BEGIN = ("ba", "b?", BadWord("b?"))
ON_END = ("ba", "!", BadWord("!"))
ON_GAPS = (GAPS, [None] * 7, TooLong())


def layers_by_depth(rules, squares, way, steps, *, depth):
    """What `move_layers` gives, with one argument by name alone."""
    return shorten.move_layers(rules, squares, way, steps=steps, depth=depth)


def least_by_depth(rules, squares, one, other, steps, *, depth):
    """What `least_moves` gives, with one argument by name alone."""
    return shorten.least_moves(rules, squares, one, other, steps=steps, depth=depth)


def row_by_depth(rules, squares, one, other, steps, *, depth):
    """What `least_row` gives, with one argument by name alone."""
    return shorten.least_row(rules, squares, one, other, steps=steps, depth=depth)


def ranked(rules, begin, end, steps, rank):
    """What `way_at` gives, with the arguments in the order in which they are examined."""
    return gaps.way_at(rules, begin, end, rank, steps=steps)


ON_STEPS = (2, 7, BadNumber(7))
ON_DEPTH = (6, -1, BadNumber(-1))
ON_OTHER = (WAY, ("!", ()), BadWord("!"))

ORDERS = [
    (shorten.shorten, [ON_RULES, ON_WAY], None),
    (layers_by_depth, [ON_RULES, ON_SQUARES, ON_WAY, ON_STEPS, ON_DEPTH], "depth"),
    (least_by_depth, [ON_RULES, ON_SQUARES, ON_WAY, ON_OTHER, ON_STEPS, ON_DEPTH], "depth"),
    (row_by_depth, [ON_RULES, ON_SQUARES, ON_WAY, ON_OTHER, ON_STEPS, ON_DEPTH], "depth"),
    (gaps.count_ways, [ON_RULES, ON_BEGIN, ON_END, (4, 7, BadNumber(7))], "steps"),
    (ranked, [ON_RULES, ON_BEGIN, ON_END, (4, 7, BadNumber(7)), (0, -1, BadNumber(-1))], None),
    (gaps.compare_ways, [ON_RULES, ON_WAY, ON_OTHER], None),
    (gaps.first_misfit, [ON_RULES, ON_BEGIN, ON_GAPS], None),
    (gaps.fill_gaps, [ON_RULES, ON_BEGIN, ON_GAPS, ON_END], None),
    (gaps.mend, [ON_RULES, ON_BEGIN, ON_GAPS, ON_END], None),
    (machine.Machine, [ON_RULES, ON_SQUARES], "squares"),
    (book.Book, [("ab", "aa", BadLetters("aa")), ([1, 2], [0, 0], BadWeights())], "weights"),
    (KEPT.link, [("A", "X", Unknown("X")), ("B", "Y", Unknown("Y"))], None),
]


class TestCalls(Calls, Case):

    CALLS = CALLS

    def test_modules_define_what_they_list(self):
        plain = [row for row in CALLS if "." not in row[0].__qualname__]
        for call, *_ in plain:
            self.assertIs(getattr(__import__(call.__module__, fromlist=["x"]), call.__name__), call)


class TestNewLists(Calls, Case):

    CALLS = PROPERTIES

    test_modules_define_what_they_list = None


class TestOrderOfErrors(Orders, Case):

    ORDERS = ORDERS

    def test_rows_behind_the_alphabet_and_the_weights(self):
        wrong = [("?", "X")]
        for call in (book.Book.replay, book.audit):
            self.refuses(BadLetters("aa"), call, "aa", wrong, weights=[0, 0])
            self.refuses(BadWeights(), call, "ab", wrong, weights=[0, 0])
        self.refuses(BadEntry(0, "X"), book.Book.replay, "ab", wrong, weights=[1, 1])
        self.assertEqual(book.audit("ab", wrong, weights=[1, 1]), 0)

    def test_errors_of_runs(self):
        run = machine.Machine(RULES)
        self.refuses(BadText(3), run.run, "write :c }")
        self.refuses(Stopped((0,)), run.run, "write :c")

    def test_the_bounds_of_the_work_come_last(self):
        wide = Rules("ab", [(f"R{at}", "b", "a" * 8) for at in range(12)], weights=[1, 9])
        self.refuses(TooMany(), shorten.move_layers, wide, [], ("a" * 32, ()), steps=2, depth=1)
        self.refuses(BadNumber(9), shorten.move_layers, wide, [], ("a" * 32, ()), steps=2, depth=9)


if __name__ == "__main__":
    unittest.main()
