"""Points 114 and 115: machine.py."""

import inspect
import random
import unittest

from helpers import Case, spoil
from wayfill.carrying import write_in
from wayfill.completion import complete
from wayfill.down import down_way, is_last, normal_way
from wayfill.errors import BadSquare, BadText, Repeated, Stopped, TooMany, WayfillError
from wayfill.fill import fill_loop, settle
from wayfill.machine import Machine
from wayfill.moves import do_moves
from wayfill.rules import Rules, format_rules
from wayfill.script import format_script
from wayfill.shorten import shorten
from wayfill.squares import plain_squares
from wayfill.steps import fits
from wayfill.ways import check_way, format_way, join_ways, turn_way, way_end
from wayfill.words import is_word

SORT = Rules("ab", [("R1", "ba", "ab"), ("E", "aa", "")])
PLAIN = plain_squares(SORT)
OPEN = Rules("ab", [("R1", "ab", "a"), ("R2", "ab", "b")])
# Completing these takes more than 6 rules, but not more than 8.
GROWN = Rules("ab", [("R0", "bbb", "ba"), ("R1", "aaaa", "aba")])
ON, BACK = (1, "R1", 0), (-1, "R1", 0)
ALL = "show word show begin show steps show moves show way show rules"


def state(machine):
    """All that a machine tells."""
    return (machine.rules, machine.squares, machine.way, machine.word, machine.moves, machine.shown)


class TestStart(Case):

    def test_headings(self):
        self.assertEqual(str(inspect.signature(Machine)), "(rules, *, squares=())")
        self.assertEqual(str(inspect.signature(Machine.run)), "(self, text)")
        for name in ["rules", "squares", "way", "word", "moves", "shown"]:
            self.assertIsInstance(vars(Machine)[name], property)
        self.assertIn("run", vars(Machine))

    def test_a_new_machine(self):
        machine = Machine(SORT)
        self.assertEqual(state(machine), (SORT, [], ("", ()), "", 0, []))
        self.assertEqual(state(Machine(rules=SORT, squares=PLAIN)), (SORT, PLAIN, ("", ()), "", 0, []))
        self.assertEqual(machine.run(""), [])
        self.assertEqual(machine.run(text=ALL), ["-", "-", "0", "0", "-", format_rules(SORT)])

    def test_wrong_squares(self):
        self.refuses(BadSquare("Q"), Machine, SORT, squares=[("Q", ("ba", (ON,)), ("ba", ()))])
        self.refuses(Repeated("Q1"), Machine, SORT, squares=[PLAIN[0], PLAIN[0]])
        self.refuses(TooMany(), Machine, SORT, squares=[PLAIN[0]] * 41)

    def test_lists_are_new(self):
        squares = list(PLAIN)
        machine = Machine(SORT, squares=squares)
        squares.clear()
        machine.squares.clear()
        self.assertEqual(machine.squares, PLAIN)
        shown = machine.run("show word")
        spoil(shown)
        spoil(machine.shown)
        self.assertEqual(machine.shown, ["-"])
        self.assertEqual(machine.run("show steps"), ["0"])
        self.assertEqual(machine.shown, ["-", "0"])


class TestStatements(Case):

    def after(self, text, rules=SORT, squares=()):
        machine = Machine(rules, squares=squares)
        machine.run(text)
        return machine

    def test_write(self):
        machine = self.after("write :ab")
        self.assertEqual((machine.way, machine.word), (("ab", ()), "ab"))
        machine.run("write :")
        self.assertEqual((machine.way, machine.word), (("", ()), ""))
        self.assertEqual(self.after("write :" + "a" * 32).word, "a" * 32)

    def test_on_and_back(self):
        self.assertEqual(self.after("write :bab on R1 0").way, ("bab", (ON,)))
        machine = self.after("write :aab back R1 1")
        self.assertEqual((machine.way, machine.word), (("aab", ((-1, "R1", 1),)), "aba"))
        machine.run("on R1 1 on E 0 back E 1")
        self.assertEqual(machine.way, ("aab", ((-1, "R1", 1), (1, "R1", 1), (1, "E", 0), (-1, "E", 1))))
        self.assertEqual(machine.word, "baa")

    def test_first(self):
        self.assertEqual(self.after("write :abbaba on R1 first").way[1], ((1, "R1", 2),))
        self.assertEqual(self.after("write :baab back E first").way[1], ((-1, "E", 0),))
        self.assertEqual(self.after("write :bbab back R1 first").way[1], ((-1, "R1", 2),))
        self.assertEqual(self.after("write :bab on R1 first back R1 first").way[1], (ON, BACK))

    def test_down_and_goto(self):
        self.assertEqual(self.after("write :babab down").way, down_way(SORT, "babab"))
        self.assertEqual(self.after("write :ab down").way, ("ab", ()))
        way = ("bab", (ON,))
        self.assertEqual(self.after("write :bab on R1 0 down").way, join_ways(SORT, way, down_way(SORT, "abb")))
        way = self.after("write :bba on R1 1 goto :bba").way
        self.assertEqual(way, join_ways(SORT, ("bba", ((1, "R1", 1),)), normal_way(SORT, "bab", "bba")))
        self.assertEqual(self.after("write :ba goto :ba").way, ("ba", (ON, BACK)))

    def test_turn(self):
        machine = self.after("write :bba on R1 1 on R1 0 turn")
        self.assertEqual((machine.way, machine.word), (("abb", ((-1, "R1", 0), (-1, "R1", 1))), "bba"))
        machine.run("turn")
        self.assertEqual((machine.way, machine.word), (("bba", ((1, "R1", 1), (1, "R1", 0))), "abb"))

    def test_shorten_settle_and_fill(self):
        way = ("bba", ((1, "R1", 1), (-1, "R1", 1), (1, "R1", 1)))
        text = "write :bba on R1 1 back R1 1 on R1 1 "
        machine = self.after(text + "shorten")
        self.assertEqual((machine.way, machine.word), (("bba", ((1, "R1", 1),)), "bab"))
        self.assertEqual(machine.moves, len(shorten(SORT, way)[1]))
        machine = self.after(text + "settle", squares=PLAIN)
        self.assertEqual((machine.way, machine.word), (normal_way(SORT, "bba", "bab"), "bab"))
        self.assertEqual(machine.moves, len(settle(SORT, PLAIN, way)))
        loop = ("bba", way[1] + ((-1, "R1", 1),))
        machine = self.after(text + "back R1 1 fill", squares=PLAIN)
        self.assertEqual((machine.way, machine.word), (("bba", ()), "bba"))
        self.assertEqual(machine.moves, len(fill_loop(SORT, PLAIN, loop)))
        self.assertEqual(do_moves(SORT, PLAIN, loop, fill_loop(SORT, PLAIN, loop)), ("bba", ()))

    def test_moves_over_several_runs(self):
        machine = Machine(SORT, squares=PLAIN)
        total = 0
        for text in ["write :bba on R1 1 back R1 1 shorten", "write :ba settle", "write :abab down settle turn settle",
                     "squares write :ba", "complete", "write :"]:
            before = machine.moves
            machine.run(text)
            self.assertGreaterEqual(machine.moves, before)
            total = max(total, machine.moves)
        self.assertEqual(machine.moves, total)
        self.assertGreater(total, 10)
        self.assertEqual(machine.run("show moves"), [str(total)])

    def test_squares(self):
        machine = self.after("squares")
        self.assertEqual(machine.squares, PLAIN)
        machine = self.after("squares", squares=[("Z", ("a", ()), ("a", ()))])
        self.assertEqual(machine.squares, PLAIN)
        self.assertEqual((machine.rules, machine.moves, machine.shown), (SORT, 0, []))

    def test_complete(self):
        final, log = complete(OPEN)
        machine = self.after("write :aab on R1 1 complete", rules=OPEN, squares=[("Z", ("a", ()), ("a", ()))])
        self.assertEqual(machine.way, write_in(OPEN, log, ("aab", ((1, "R1", 1),))))
        self.assertEqual((machine.rules, machine.squares, machine.word, machine.moves), (final, [], "aa", 0))
        self.refuses(TooMany(), complete, GROWN)
        self.assertGreater(len(complete(GROWN, most=8)[1]), 6)
        self.refuses(Stopped((0,)), Machine(GROWN).run, "complete")

    def test_complete_writes_the_way_in(self):
        final, log = complete(OPEN)
        machine = self.after("write :aab on R2 1 back R2 1 on R1 1 complete", rules=OPEN)
        way = ("aab", ((1, "R2", 1), (-1, "R2", 1), (1, "R1", 1)))
        self.assertEqual(machine.way, write_in(OPEN, log, way))
        self.assertNotEqual(machine.way, way)
        self.assertEqual((machine.rules, machine.word), (final, "aa"))
        machine.run("squares settle")
        self.assertEqual(machine.squares, plain_squares(final))
        self.assertEqual(machine.way, normal_way(final, "aab", "aa"))

    def test_show(self):
        machine = Machine(SORT, squares=PLAIN)
        shown = machine.run("write :bba on R1 1 back R1 1 shorten on R1 1 " + ALL + " write : show word")
        self.assertEqual(shown, ["bab", "bba", "1", "1", "bba R1+1", format_rules(SORT), "-"])
        self.assertEqual(format_way(("bba", ((1, "R1", 1),))), shown[4])

    def test_each(self):
        machine = Machine(SORT)
        shown = machine.run("write :bb each :ba : :ba { show word down show way }")
        self.assertEqual(shown, ["ba", "ba R1+0", "-", "-", "ba", "ba R1+0"])
        self.assertEqual(machine.way, ("ba", (ON,)))
        machine.run("each :aab :ab { }")
        self.assertEqual(machine.way, ("ab", ()))

    def test_until(self):
        machine = Machine(SORT)
        self.assertEqual(machine.run("write :bba until :abb { on R1 first show word }"), ["bab", "abb"])
        self.assertEqual(machine.run("until :abb { turn show word }"), [])
        self.assertEqual(machine.run("write :babb until last { on R1 first } show word"), ["abbb"])
        self.assertEqual(machine.run("until last { show word }"), [])

    def test_repeat(self):
        machine = Machine(SORT)
        self.assertEqual(machine.run("write :ba repeat 3 { on R1 0 back R1 0 show steps } show word"),
                         ["2", "4", "6", "ba"])
        self.assertEqual(machine.run("repeat 0 { show word }"), [])
        self.assertEqual(machine.run("repeat 2 { each :a : { show word } }"), ["a", "-", "a", "-"])


class TestStopping(Case):

    def stops(self, path, text, rules=SORT, squares=(), before="write :bab down show word"):
        machine = Machine(rules, squares=squares)
        machine.run(before)
        kept = state(machine)
        self.refuses(Stopped(path), machine.run, text)
        self.assertEqual(state(machine), kept)
        # The machine can go on as if that run had not been.
        self.assertEqual(machine.run("show word"), [machine.word if machine.word else "-"])
        self.assertEqual(machine.shown, kept[-1] + [machine.word if machine.word else "-"])

    def test_words_that_are_none(self):
        for text in ["write :c", "write :abca", "goto :c", "each :c { }", "until :c { }", "until :abc { down }"]:
            self.stops((0,), text)
            self.stops((2,), "show way down " + text)
            self.stops((1, 0), "turn repeat 2 { " + text + " }")
        # The word is told before the body does anything.
        for text in ["each :c { on R9 0 }", "until :c { on R9 0 }", "until :abc { write :c }"]:
            self.stops((0,), text)
        self.stops((0,), "each :a :b :c { show word }")
        self.stops((0, 1), "each :a :b { show word until :c { } }")

    def test_steps_that_do_not_fit(self):
        for text in ["on R1 1", "on R9 0", "on R9 first", "back R1 7", "on R1 99", "on R1 first", "on E 1"]:
            self.stops((1,), "write :ab " + text)
        self.stops((1,), "write :b back R1 first")
        # The result would be too long.
        self.stops((1,), "write :" + "a" * 31 + " back E first")
        self.stops((1,), "write :" + "a" * 31 + " back E 3")
        self.stops((0, 1), "repeat 2 { write :ab on R1 0 }")

    def test_ways_that_are_too_long(self):
        text = "write :ba repeat 40 { on R1 0 back R1 0 } "
        machine = Machine(SORT)
        self.assertEqual(machine.run(text + "repeat 20 { on R1 0 back R1 0 } show steps"), ["120"])
        for step in ["on R1 0", "on R1 first", "down", "goto :ab"]:
            self.stops((0,), step, before=text + "repeat 20 { on R1 0 back R1 0 }")
        self.stops((0, 0), "repeat 1 { on R1 0 }", before=text + "repeat 20 { on R1 0 back R1 0 }")
        # A statement that adds no step may stand there.
        machine.run("turn turn show word")
        machine.run("write :ab down")

    def test_going_down_too_long(self):
        rules = Rules("abc", [("C", "c", "b" * 8), ("B", "b", "a" * 8)], weights=[1, 9, 99])
        for text in ["down", "goto :a", "settle"]:
            self.stops((1,), "write :ccccc " + text, rules=rules, before="")
        self.stops((1,), "write :a goto :ccccc", rules=rules, before="")
        self.stops((1,), "write :a goto :b", rules=rules, before="show word")

    def test_work_that_fails(self):
        # The way is no loop.
        self.stops((0,), "fill", before="write :ba on R1 0")
        self.stops((2, 1), "write :ba on R1 0 repeat 1 { turn fill }")
        # The last words differ.
        self.stops((1,), "write :ab goto :b", before="")
        # The overlaps of the rules are open.
        self.stops((0,), "squares", rules=OPEN, before="write :ab")
        self.stops((1,), "show rules complete", rules=GROWN, before="")

    def test_a_square_that_is_lacking(self):
        # The first and the second step overlap in the word between them.
        way = "write :aba back R1 0 on E 1 "
        for text, path in [("settle", (3,)), ("turn settle", (4,))]:
            machine = Machine(SORT, squares=PLAIN)
            machine.run(way + text)
            self.assertGreater(machine.moves, 0)
            self.stops(path, way + text, before="")

    def test_shortening_more_than_20_steps(self):
        text = "write :ba repeat 10 { on R1 0 back R1 0 } "
        machine = Machine(SORT)
        self.assertEqual(machine.run(text + "shorten show steps show moves"), ["0", "10"])
        self.stops((3,), text + "on R1 0 shorten")

    def test_many_overlaps(self):
        rules = Rules("a", [(f"R{at}", "a" * 8, "a") for at in range(12)])
        for text in ["squares", "complete"]:
            self.stops((0, 0), f"repeat 2 {{ {text} }}", rules=rules, before="")

    def test_paths_in_loops_within_loops(self):
        text = "down repeat 2 { show way each :ab :ba { until last { repeat 1 { down on R1 first } } } }"
        self.stops((1, 1, 0, 0, 1), text)
        text = "repeat 1 { each :a { repeat 1 { repeat 1 { each :b :c { show word } } } } }"
        self.stops((0, 0, 0, 0, 0), text)
        text = "repeat 1 { each :a { repeat 1 { repeat 1 { each :b { show word on R1 0 } } } } }"
        self.stops((0, 0, 0, 0, 0, 1), text)

    def test_bad_text(self):
        machine = Machine(SORT)
        machine.run("write :ba show word")
        kept = state(machine)
        for at, text in [(4, "write :ab on"), (3, "write :c }"), (1, "}"), (3, "write :ab x")]:
            self.refuses(BadText(at), machine.run, text)
        self.assertEqual(state(machine), kept)


class TestDeeds(Case):

    def run_with(self, text, path):
        """Run the text, which stops at the path, if there is one; the texts that are shown."""
        machine = Machine(SORT)
        if path is None:
            return machine.run(text)
        self.refuses(Stopped(path), machine.run, text)
        return self.assertEqual(state(machine), (SORT, [], ("", ()), "", 0, []))

    def test_single_statements(self):
        # 40 rounds of 9 deeds are 360 with the statements in them, and 40 more with the rounds.
        body = "repeat 40 { " + "turn " * 9 + "} "
        self.run_with(body, None)
        self.run_with(body + "down", (1,))
        self.run_with("down " + body, (1, 8))
        self.run_with(body + "repeat 0 { turn } until last { turn } until : { turn }", None)
        self.run_with(body + "repeat 1 { }", (1,))
        self.run_with(body + "each :a { }", (1,))
        self.run_with(body + "each :c { }", (1,))
        self.run_with(body + "until :a { }", (1,))
        self.run_with(body + "until :c { }", (1,))
        self.run_with(body + "write :c", (1,))

    def test_statements_of_20_deeds(self):
        for text in ["shorten", "settle", "fill", "squares", "complete"]:
            self.run_with(f"{text} " * 20, None)
            self.run_with(f"{text} " * 20 + "turn", (20,))
            self.run_with(f"{text} " * 21, (20,))
            self.run_with(f"{text} " * 19 + "repeat 4 { turn turn turn turn }", None)
            self.run_with(f"{text} " * 19 + "repeat 4 { turn turn turn turn } turn", (20,))
            self.run_with(f"turn {text} " * 19 + text, (38,))
            self.run_with("turn " * 20 + f"{text} " * 19, None)
            self.run_with("turn " * 21 + f"{text} " * 19, (39,))
        self.run_with("repeat 19 { squares turn }", (0, 0))
        self.run_with("repeat 18 { squares turn }", None)

    def test_words_that_are_called_as_statements_are(self):
        machine = Machine(Rules("fil", []))
        machine.run("repeat 40 { " + "write :fill " * 9 + "}")
        self.refuses(Stopped((1,)), machine.run, "repeat 40 { " + "write :fill " * 9 + "} write :fill")

    def test_rounds(self):
        self.run_with("repeat 10 { repeat 39 { } }", None)
        self.run_with("repeat 10 { repeat 39 { } } turn", (1,))
        self.run_with("repeat 10 { repeat 39 { } } repeat 1 { }", (1,))
        self.run_with("turn repeat 10 { repeat 39 { } }", (1, 0))
        self.run_with("repeat 10 { repeat 40 { } }", (0, 0))
        self.run_with("turn repeat 40 { each :a :b :a :b :a :b :a :b :a { } }", (1, 0))
        self.run_with("repeat 40 { each :a :b :a :b :a :b :a :b :a { } }", None)

    def test_endless_loops(self):
        self.run_with("until :a { }", (0,))
        self.run_with("until :a { turn }", (0,))
        self.run_with("turn until :a { turn }", (1, 0))
        self.run_with("write :ba until last { on R1 0 back R1 0 }", (1, 0))
        self.run_with("write :ba until last { until :b { turn turn } }", (1, 0, 1))

    def test_rounds_of_until_are_tested_first(self):
        # 398 deeds, then two rounds or one round with one statement are the last ones.
        text = "repeat 40 { " + "turn " * 8 + "} repeat 19 { turn } "
        self.run_with(text + "write :ba", None)
        self.run_with(text + "write :ba until last { }", (3,))
        self.run_with("write :ba " + text + "until last { down }", (3, 0))
        self.run_with("write :ba repeat 40 { " + "turn " * 8 + "} repeat 18 { turn } until last { down }", None)

    def test_each_run_counts_its_own_deeds(self):
        machine = Machine(SORT)
        for _ in range(3):
            machine.run("squares " * 20)
        self.refuses(Stopped((20,)), machine.run, "squares " * 21)
        machine.run("squares " * 20)

    def test_deeds_are_tested_before_the_work(self):
        body = "repeat 40 { " + "turn " * 9 + "} "
        for text in ["on R9 0", "write :c", "fill"]:
            self.run_with(body + text, (1,))


class TestSimulated(Case):

    STATEMENTS = ["write :bab", "write :baab", "on R1 first", "back R1 first", "on R1 0", "down", "turn", "goto :ab",
                  "shorten", "settle", "fill", "show way", "on E first", "back E 0"]

    def test_random_scripts(self):
        luck = random.Random(22)
        stopped = 0
        for _ in range(400):
            machine = Machine(SORT, squares=PLAIN)
            pieces = [luck.choice(self.STATEMENTS) for _ in range(luck.randint(1, 8))]
            way, moves, shown, fault = self.simulated(pieces)
            if fault is None:
                self.assertEqual(machine.run(" ".join(pieces)), shown)
                self.assertEqual((machine.way, machine.moves, machine.shown), (way, moves, shown))
            else:
                stopped += 1
                self.refuses(Stopped((fault,)), machine.run, "\n".join(pieces))
                self.assertEqual((machine.way, machine.moves, machine.shown), (("", ()), 0, []))
        self.assertTrue(50 < stopped < 350, stopped)

    def simulated(self, pieces):
        """The way, the moves, the texts and the index of the failing statement, one single run for each statement."""
        machine = Machine(SORT, squares=PLAIN)
        for at, piece in enumerate(pieces):
            try:
                machine.run(piece)
            except Stopped as error:
                self.assertEqual(error.path, (0,))
                return None, None, None, at
        return machine.way, machine.moves, machine.shown, None


class Halt(Exception):
    """The run fails at a path."""


class Interpreter:
    """Points 114 and 115 by the public functions, for a few statements and all loops."""

    def __init__(self):
        self.way, self.shown, self.deeds = ("", ()), [], 0

    def deed(self, many, path):
        if self.deeds + many > 400:
            raise Halt(path)
        self.deeds += many

    def run(self, statements, path=()):
        for at, (kind, *rest) in enumerate(statements):
            here = path + (at,)
            if kind == "repeat":
                for _ in range(rest[0]):
                    self.deed(1, here)
                    self.run(rest[1], here)
            elif kind == "each":
                for word in rest[0]:
                    self.deed(1, here)
                    if not is_word("ab", word):
                        raise Halt(here)
                    self.way = (word, ())
                    self.run(rest[1], here)
            elif kind == "until":
                self.until(*rest, here)
            else:
                self.deed(20 if kind == "settle" else 1, here)
                try:
                    self.way = self.after(kind, rest)
                    check_way(SORT, self.way)
                except WayfillError:
                    raise Halt(here) from None

    def until(self, word, body, here):
        if word is not None and not is_word("ab", word):
            raise Halt(here)
        while not (is_last(SORT, self.word()) if word is None else self.word() == word):
            self.deed(1, here)
            self.run(body, here)

    def word(self):
        return way_end(SORT, self.way)

    def after(self, kind, rest):
        """The way after a statement."""
        if kind == "write":
            return rest[0], ()
        if kind == "settle":
            return normal_way(SORT, self.way[0], self.word())
        if kind == "turn":
            return turn_way(SORT, self.way)
        if kind == "down":
            return join_ways(SORT, self.way, down_way(SORT, self.word()))
        if kind == "goto":
            return join_ways(SORT, self.way, normal_way(SORT, self.word(), rest[0]))
        if kind == "show":
            self.shown.append(format_way(self.way))
            return self.way
        sign = 1 if kind == "on" else -1
        places = [place for place in range(33) if fits(SORT, self.word(), (sign, rest[0], place))]
        place = (places + [99])[0] if rest[1] is None else rest[1]
        return self.way[0], self.way[1] + ((sign, rest[0], place),)


class TestInterpreted(Case):

    PLAIN = [("write", "bab"), ("write", "baab"), ("write", "bc"), ("on", "R1", None), ("back", "R1", None),
             ("on", "R1", 0), ("back", "E", 1), ("on", "E", None), ("down",), ("turn",), ("goto", "ab"), ("settle",),
             ("show", "way")]
    WORDS = ["", "ba", "bab", "abba", "ab", "b"]

    def statement(self, luck, depth):
        if depth == 4 or luck.random() < 0.55:
            return luck.choice(self.PLAIN)
        body = [self.statement(luck, depth + 1) for _ in range(luck.randint(0, 3))]
        words = [luck.choice(self.WORDS + ["c"] * (luck.random() < 0.1)) for _ in range(luck.randint(1, 4))]
        return luck.choice([("repeat", luck.randint(0, 6), body), ("each", words, body),
                            ("until", luck.choice([None, words[0]]), body)])

    def test_random_loops(self):
        luck = random.Random(25)
        depths = {}
        for _ in range(1500):
            statements = [self.statement(luck, 0) for _ in range(luck.randint(1, 4))]
            machine, reference = Machine(SORT, squares=PLAIN), Interpreter()
            try:
                reference.run(statements)
            except Halt as halt:
                path, = halt.args
                depths[len(path)] = depths.get(len(path), 0) + 1
                self.refuses(Stopped(path), machine.run, format_script(statements))
                self.assertEqual(machine.way, ("", ()))
            else:
                depths[0] = depths.get(0, 0) + 1
                self.assertEqual(machine.run(format_script(statements)), reference.shown)
                self.assertEqual(machine.way, reference.way)
        self.assertTrue(all(depths.get(depth, 0) > 10 for depth in range(4)), depths)


if __name__ == "__main__":
    unittest.main()
