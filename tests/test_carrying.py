"""Points 80 to 84: carrying.py."""

import random
import unittest

from helpers import Case
from test_fill import MIXED, costs_of, long_loop, some_way, taken_out
from wayfill.carrying import carried_between, carried_filling, carry_squares, write_in, write_out
from wayfill.completion import complete, log_rules
from wayfill.down import normal_way
from wayfill.errors import BadEnds, BadLog, BadSquare, BadStep, BadWord, Lacking, Repeated, TooLong, TooMany, Unknown
from wayfill.fill import settle
from wayfill.moves import do_move, do_moves, turn_moves
from wayfill.rules import Rules
from wayfill.squares import exchange_legs, is_square, plain_squares
from wayfill.steps import turn_step
from wayfill.ways import check_way, is_way, join_ways, turn_way, way_end, way_words

COMPLETED = [Rules("ab", [("R1", "ab", "a"), ("R2", "ab", "b")]), Rules("ab", [("R1", "aba", "b")]),
             Rules("ab", [("R1", "aba", "")]), Rules("a", [("P", "aa", "a"), ("Q", "aa", "")]),
             Rules("ab", [("R1", "aaaa", ""), ("R2", "aaaaaa", "")]), Rules("ab", [("R1", "ba", "ab")])]
LARGER = [Rules("ab", [("R1", "abaab", "")]), Rules("ab", [("R1", "baaba", "")])]

RULES = COMPLETED[0]
FINAL, LOG = complete(RULES)
PLAIN = plain_squares(FINAL)


def reasons_of(log, kind):
    return {entry[1]: entry[4] for entry in log if entry[0] == kind}


def replaced(way, reasons):
    """The way with its first step that has a reason replaced, again and again."""
    begin, steps = way[0], list(way[1])
    while [step for step in steps if step[1] in reasons]:
        at = [step[1] in reasons for step in steps].index(True)
        sign, name, place = steps[at]
        row = [(one, other, spot + place) for one, other, spot in reasons[name][1]]
        if sign == -1:
            row = [turn_step(step) for step in row[::-1]]
        steps[at:at + 1] = row
    return begin, tuple(steps)


def swapped(rules, loops, way):
    """The swaps for the steps of dropped rules, by the words of point 83."""
    at, moves = 0, []
    for sign, name, place in way[1]:
        if name in loops:
            moves.append(("swap", at, loops[name][0], place, 0, sign))
            at += len(loops[name][2][1])
        else:
            at += 1
    return moves


def written_moves(rules, log, squares, way):
    """The moves of carried filling, by the words of point 83."""
    final, added = log_rules(rules, log), reasons_of(log, "add")
    carried = carry_squares(rules, log, squares)
    loops = {square[1][1][0][1]: square for square in carried[len(squares):]}
    moves = swapped(rules, loops, way)
    inner = write_in(rules, log, way)

    def length(steps):
        return len(replaced(("", steps), added)[1])

    for move in settle(final, squares, inner):
        at = move[1]
        first, steps = length(inner[1][:at]), inner[1]
        if move[0] == "drop":
            many = length(steps[at:at + 1])
            moves += [("drop", first + less) for less in range(many - 1, -1, -1)]
        elif move[0] == "grow":
            row = replaced(("", (move[2],)), added)[1]
            moves += [("grow", first + more, step) for more, step in enumerate(row)]
        elif move[0] == "exchange":
            for more in range(length(steps[at + 1:at + 2])):
                for less in range(length(steps[at:at + 1]) - 1, -1, -1):
                    moves.append(("exchange", first + more + less, move[2]))
        else:
            moves.append(("swap", first) + move[2:])
        inner = do_move(final, squares, inner, move)
    return moves


class TestWritingOut(Case):

    def test_steps_on_and_back_between_letters(self):
        reason = LOG[0][4]
        self.assertEqual(reason, ("b", ((-1, "R2", 0), (1, "R1", 0))))
        self.assertEqual(write_out(RULES, LOG, ("abba", ((1, "N1", 2),))), ("abba", ((-1, "R2", 2), (1, "R1", 2))))
        self.assertEqual(write_out(RULES, LOG, ("aba", ((-1, "N1", 2),))), ("aba", ((-1, "R1", 2), (1, "R2", 2))))
        self.assertEqual(write_out(RULES, LOG, ("ba", ((1, "N1", 0), (-1, "N1", 1)))),
                         ("ba", ((-1, "R2", 0), (1, "R1", 0), (-1, "R1", 1), (1, "R2", 1))))

    def test_reasons_that_use_other_added_rules(self):
        self.assertEqual(LOG[1][4], ("aa", ((-1, "N1", 1), (1, "R1", 0))))
        self.assertEqual(write_out(RULES, LOG, ("baab", ((1, "N2", 1),))),
                         ("baab", ((-1, "R1", 2), (1, "R2", 2), (1, "R1", 1))))
        self.assertEqual(write_out(RULES, LOG, ("bab", ((-1, "N2", 1),))),
                         ("bab", ((-1, "R1", 1), (-1, "R2", 2), (1, "R1", 2))))

    def test_first_rules_stay(self):
        rules = COMPLETED[1]
        final, log = complete(rules)
        way = ("ababa", ((1, "R1", 0), (1, "N1", 0)))
        self.assertEqual(write_out(rules, log, way), ("ababa", ((1, "R1", 0), (-1, "R1", 0), (1, "R1", 2))))
        self.assertEqual(write_out(rules, [], ("aba", ((1, "R1", 0),))), ("aba", ((1, "R1", 0),)))
        self.assertEqual(write_out(RULES, LOG, ("ab", ())), ("ab", ()))

    def test_a_reason_of_an_added_rule_that_was_dropped(self):
        # N1 goes, but the reason of N2 uses it; the reason of its own drop is another one.
        log = LOG[:2] + [("drop", "N1", "b", "a", ("b", ((-1, "R2", 0), (1, "R1", 0), (-1, "R1", 0), (1, "R1", 0))))]
        self.assertEqual(log_rules(RULES, log).names, ["R1", "R2", "N2"])
        self.assertEqual(write_out(RULES, log, ("aa", ((1, "N2", 0),))),
                         ("aa", ((-1, "R1", 1), (1, "R2", 1), (1, "R1", 0))))

    def test_any_ways(self):
        luck = random.Random(53)
        for rules in COMPLETED + LARGER:
            final, log = complete(rules)
            for _ in range(40):
                way = some_way(luck, final, 4, 5)
                expected = replaced(way, reasons_of(log, "add"))
                if not is_way(rules, expected):
                    self.refuses(TooLong(), write_out, rules, log, way)
                    continue
                written = write_out(rules, log, way)
                self.assertEqual(written, expected)
                check_way(rules, written)
                self.assertEqual((written[0], way_end(rules, written)), (way[0], way_end(final, way)))

    # N1 has a reason of 40 steps, N2 one of four steps with N1: its steps written out are 120.
    LONG = ("b", ((-1, "R2", 0), (1, "R2", 0)) * 19 + LOG[0][4][1])
    STAIRS = [("add", "N1", "b", "a", LONG),
              ("add", "N2", "bb", "aa", ("bb", ((1, "N1", 0), (1, "N1", 1)))),
              ("add", "N3", "bbb", "aaa", ("bbb", ((1, "N2", 0), (1, "N1", 2)))),
              ("add", "N4", "bbbb", "aaaa", ("bbbb", ((1, "N3", 0), (1, "N1", 3))))]

    def test_120_and_more_steps(self):
        self.assertEqual(len(self.LONG[1]), 40)
        written = write_out(RULES, self.STAIRS, ("bbb", ((1, "N3", 0),)))
        self.assertEqual(len(written[1]), 120)
        self.assertEqual(way_end(RULES, written), "aaa")
        for steps in [((1, "N4", 0),), ((1, "N3", 0), (1, "N1", 3)), ((1, "N3", 0), (-1, "R1", 0)),
                      ((-1, "R2", 0), (1, "N3", 1))]:
            self.refuses(TooLong(), write_out, RULES, self.STAIRS, ("bbbb", steps))

    def test_an_entry_whose_rule_does_not_arise(self):
        # What N4 stands for is too long, but only where it is written out.
        self.assertEqual(write_out(RULES, self.STAIRS, ("bbbb", ((-1, "R2", 0),))), ("bbbb", ((-1, "R2", 0),)))
        self.assertEqual(carry_squares(RULES, self.STAIRS, []), [])

    def test_reasons_within_reasons_that_are_far_too_long(self):
        log = [("add", "N1", "b", "a", self.LONG)]
        for at in range(2, 9):
            back = ((1, f"N{at - 1}", 0), (-1, f"N{at - 1}", 0)) * 59
            log.append(("add", f"N{at}", "b", "a", ("b", back + ((1, f"N{at - 1}", 0),))))
        for name in ["N2", "N8"]:
            self.refuses(TooLong(), write_out, RULES, log, ("b", ((1, name, 0),)))
        self.assertEqual(len(write_out(RULES, log, ("b", ((1, "N1", 0),)))[1]), 40)

    def test_words_of_32_and_33_letters(self):
        # The reason of N1 visits a word with one letter more.
        way = ("a" * 30 + "b", ((1, "N1", 30),))
        self.assertEqual(max(map(len, way_words(RULES, write_out(RULES, LOG, way)))), 32)
        self.refuses(TooLong(), write_out, RULES, LOG, ("a" + way[0], ((1, "N1", 31),)))
        self.refuses(TooLong(), write_out, RULES, LOG, ("a" * 32, ((-1, "N1", 31),)))
        self.assertEqual(write_out(RULES, LOG, ("a" * 32, ())), ("a" * 32, ()))

    def test_errors_in_order(self):
        self.refuses(BadLog(0), write_out, RULES, LOG[1:], ("?", ()))
        self.refuses(BadWord("?"), write_out, RULES, LOG, ("?", ()))
        # The way is one over the final rules.
        self.refuses(Unknown("R1"), write_out, RULES, LOG, ("ab", ((1, "R1", 0),)))
        self.refuses(BadStep(1), write_out, RULES, LOG, ("b", ((1, "N1", 0), (1, "N1", 0))))
        self.refuses(Unknown("N2"), write_out, RULES, LOG[:1], ("aa", ((1, "N2", 0),)))


class TestWritingIn(Case):

    def test_dropped_rules(self):
        self.assertEqual(write_in(RULES, LOG, ("babb", ((1, "R1", 1),))), ("babb", ((1, "N1", 2), (1, "N2", 1))))
        self.assertEqual(write_in(RULES, LOG, ("aaa", ((-1, "R1", 1),))), ("aaa", ((-1, "N2", 1), (-1, "N1", 2))))
        # The reason of R2 is over N1, N2 and R1, and R1 is dropped later.
        self.assertEqual(LOG[2][4], ("ab", ((1, "R1", 0), (-1, "N1", 0))))
        self.assertEqual(write_in(RULES, LOG, ("babb", ((1, "R2", 1),))),
                         ("babb", ((1, "N1", 2), (1, "N2", 1), (-1, "N1", 1))))

    def test_rules_that_stay(self):
        rules = COMPLETED[1]
        final, log = complete(rules)
        self.assertEqual(write_in(rules, log, ("aba", ((1, "R1", 0),))), ("aba", ((1, "R1", 0),)))

    def test_reasons_that_use_rules_that_are_dropped_later(self):
        rules = Rules("ab", [("M", "aa", ""), ("L", "aaa", "a"), ("S", "a", "")])
        final, log = complete(rules)
        self.assertEqual(write_in(rules, log, ("aaaa", ((1, "L", 1),))),
                         ("aaaa", ((1, "S", 1), (1, "S", 1), (1, "S", 1), (-1, "S", 1))))

    def test_any_ways(self):
        luck = random.Random(59)
        for rules in COMPLETED + LARGER:
            final, log = complete(rules)
            for _ in range(40):
                way = some_way(luck, rules, 6)
                expected = replaced(way, reasons_of(log, "drop"))
                if not is_way(final, expected):
                    self.refuses(TooLong(), write_in, rules, log, way)
                    continue
                written = write_in(rules, log, way)
                self.assertEqual(written, expected)
                self.assertEqual((written[0], way_end(final, written)), (way[0], way_end(rules, way)))

    def test_120_and_121_steps(self):
        rules = Rules("ab", [("A", "ab", "a"), ("B", "ab", "a")])
        log = [("drop", "A", "ab", "a", ("ab", ((1, "B", 0), (-1, "B", 0)) * 19 + ((1, "B", 0),)))]
        steps = ((1, "A", 0), (-1, "A", 0), (1, "A", 0), (-1, "B", 0), (1, "B", 0), (-1, "B", 0), (1, "B", 0))
        for many in range(8):
            if 39 * min(many, 3) + max(many - 3, 0) <= 120:
                self.assertEqual(write_in(rules, log, ("ab", steps[:many])),
                                 replaced(("ab", steps[:many]), {"A": log[0][4]}))
            else:
                self.refuses(TooLong(), write_in, rules, log, ("ab", steps[:many]))
        self.assertEqual(len(write_in(rules, log, ("ab", steps[:6]))[1]), 120)

    def test_words_of_32_and_33_letters(self):
        rules = Rules("ab", [("A", "ab", "a"), ("B", "ab", "a")])
        log = [("drop", "A", "ab", "a", ("ab", ((-1, "B", 0), (1, "B", 0), (1, "B", 0))))]
        self.assertEqual(len(write_in(rules, log, ("b" * 29 + "ab", ((1, "A", 29),)))[1]), 3)
        self.refuses(TooLong(), write_in, rules, log, ("b" * 30 + "ab", ((1, "A", 30),)))

    def test_errors_in_order(self):
        self.refuses(BadLog(0), write_in, RULES, LOG[1:], ("?", ()))
        self.refuses(BadWord("?"), write_in, RULES, LOG, ("?", ()))
        # The way is one over the first rules.
        self.refuses(Unknown("N1"), write_in, RULES, LOG, ("b", ((1, "N1", 0),)))


class TestCarriedSquares(Case):

    def test_squares_and_loop_squares(self):
        carried = carry_squares(RULES, LOG, PLAIN)
        self.assertEqual([square[0] for square in carried], ["Q1", "D1", "D2"])
        self.assertEqual(carried[0], ("Q1", write_out(RULES, LOG, PLAIN[0][1]), write_out(RULES, LOG, PLAIN[0][2])))
        # In the order of the log: first R2, then R1.
        for square, name, end in [(carried[1], "R2", "b"), (carried[2], "R1", "a")]:
            leg = ("ab", ((1, name, 0),))
            self.assertEqual(square[1:], (leg, write_out(RULES, LOG, write_in(RULES, LOG, leg))))
            self.assertEqual(way_end(RULES, square[2]), end)

    def test_names(self):
        for names, expected in [(["D1"], ["D2", "D3"]), (["D2"], ["D1", "D3"]), (["D3", "D1"], ["D2", "D4"]),
                                (["Q", "D01"], ["D1", "D2"])]:
            squares = [(name,) + PLAIN[0][1:] for name in names]
            self.assertEqual([square[0] for square in carry_squares(RULES, LOG, squares)], names + expected)

    def test_added_rules_that_were_dropped_have_none(self):
        rules = LARGER[0]
        final, log = complete(rules)
        self.assertEqual(len([entry for entry in log if entry[0] == "drop"]), 5)
        carried = carry_squares(rules, log, [])
        self.assertEqual([(square[0], square[1]) for square in carried], [("D1", ("abaab", ((1, "R1", 0),)))])

    def test_they_are_squares(self):
        for rules in COMPLETED + LARGER:
            final, log = complete(rules)
            squares = plain_squares(final)
            for some in [squares, [exchange_legs(square) for square in squares], []]:
                for square in carry_squares(rules, log, some):
                    self.judges(True, is_square, rules, square)

    def test_40_and_41_squares(self):
        squares = [(f"S{at}", ("", ()), ("", ())) for at in range(41)]
        self.assertEqual(len(carry_squares(RULES, LOG, squares[:38])), 40)
        self.refuses(TooMany(), carry_squares, RULES, LOG, squares[:39])
        self.refuses(TooMany(), carry_squares, RULES, LOG, squares)
        self.assertEqual(len(carry_squares(RULES, [], squares[:40])), 40)

    def test_too_many_comes_before_anything_is_written_out(self):
        word = "a" * 31 + "b"
        longer = ("L", (word, ((1, "N1", 31), (-1, "N1", 31))), (word, ()))
        squares = [(f"S{at}", ("", ()), ("", ())) for at in range(38)]
        self.refuses(TooLong(), carry_squares, RULES, LOG, [longer] + squares[:37])
        self.refuses(TooMany(), carry_squares, RULES, LOG, [longer] + squares)

    def test_a_loop_square_that_is_too_long(self):
        # Leg 1 of D1 has once or three times 41 steps beside one further step.
        rules = Rules("ab", [("A", "abb", "aa"), ("B", "ab", "a"), ("C", "b", "a")])
        log = [("add", "N1", "b", "a", ("b", ((1, "C", 0), (-1, "C", 0)) * 20 + ((1, "C", 0),)))]
        for many, right in [(1, True), (3, False)]:
            steps = ((1, "B", 0),) + ((1, "N1", 1), (-1, "N1", 1), (1, "N1", 1))[:many]
            drop = ("drop", "A", "abb", "aa", ("abb", steps))
            if right:
                self.assertEqual(len(carry_squares(rules, log + [drop], [])[0][2][1]), 42)
            else:
                self.refuses(TooLong(), carry_squares, rules, log + [drop], [])
        self.assertEqual(carry_squares(rules, log, []), [])

    def test_errors_in_order(self):
        self.refuses(BadLog(0), carry_squares, RULES, LOG[1:], [("?", ("?", ()), ("", ()))])
        self.refuses(BadSquare("?"), carry_squares, RULES, LOG, [("?", ("?", ()), ("", ()))])
        self.refuses(Repeated("Q1"), carry_squares, RULES, LOG, PLAIN + PLAIN)
        # The squares are ones over the final rules.
        leg = ("ab", ((1, "R1", 0),))
        self.refuses(BadSquare("S"), carry_squares, RULES, LOG, [("S", leg, leg)])


class TestCarriedFilling(Case):

    def filled(self, rules, log, squares, way):
        final = log_rules(rules, log)
        carried = carry_squares(rules, log, squares)
        moves = carried_filling(rules, log, squares, way)
        self.assertEqual(moves, written_moves(rules, log, squares, way))
        goal = write_out(rules, log, normal_way(final, way[0], way_end(rules, way)))
        self.assertEqual(do_moves(rules, carried, way, moves), goal)
        return moves

    def test_the_result_is_the_normal_way_written_out(self):
        luck = random.Random(61)
        kinds = {}
        for rules in COMPLETED:
            final, log = complete(rules)
            for squares in [plain_squares(final), [exchange_legs(square) for square in plain_squares(final)]]:
                done = 0
                for _ in range(60):
                    way = some_way(luck, rules, 5, 4)
                    try:
                        carried_filling(rules, log, squares, way)
                    except (TooLong, TooMany):
                        continue
                    done += 1
                    for move in self.filled(rules, log, squares, way):
                        kinds[move[0]] = kinds.get(move[0], 0) + 1
                self.assertGreater(done, 10)
        self.assertGreater(min(kinds.values()), 100)
        self.assertEqual(len(kinds), 4)

    def test_reasons_of_several_steps_on_both_sides_of_an_exchange(self):
        found = []
        luck = random.Random(67)
        for _ in range(200):
            way = some_way(luck, RULES, 4, 3)
            try:
                inner = write_in(RULES, LOG, way)
                settling = settle(FINAL, PLAIN, inner)
                self.filled(RULES, LOG, PLAIN, way)
            except (TooLong, TooMany):
                continue
            for move in settling:
                if move[0] == "exchange":
                    pair = inner[1][move[1]:move[1] + 2]
                    found.append(tuple(sorted(step[1] for step in pair)) + (move[2],))
                inner = do_move(FINAL, PLAIN, inner, move)
        for pair in [("N1", "N1"), ("N1", "N2")]:
            for side in ["left", "right"]:
                self.assertIn(pair + (side,), found)

    def test_the_order_within_an_exchange(self):
        # Two steps back of A, then two steps on of B: over the final rules one exchange of N1 and N2.
        rules = Rules("ab", [("A", "a", ""), ("B", "b", "")])
        log = [("add", "N1", "a", "", ("a", ((1, "A", 0), (-1, "A", 0), (1, "A", 0)))),
               ("add", "N2", "b", "", ("b", ((1, "B", 0), (-1, "B", 0), (1, "B", 0)))),
               ("drop", "A", "a", "", ("a", ((1, "N1", 0),))), ("drop", "B", "b", "", ("b", ((1, "N2", 0),)))]
        way = ("", ((-1, "A", 0), (-1, "B", 1), (1, "A", 0), (1, "B", 0)))
        self.assertEqual(self.filled(rules, log, [], way),
                         [("swap", 0, "D1", 0, 0, -1), ("swap", 3, "D2", 1, 0, -1), ("swap", 6, "D1", 0, 0, 1),
                          ("swap", 9, "D2", 0, 0, 1)]
                         + [("exchange", 3 + more + less, "left") for more in range(3) for less in (2, 1, 0)]
                         + [("drop", 2), ("drop", 1), ("drop", 0)] * 2)

    def test_steps_of_dropped_rules_are_swapped_first(self):
        moves = self.filled(RULES, LOG, PLAIN, ("ab", ((1, "R2", 0),)))
        self.assertEqual(moves[0], ("swap", 0, "D1", 0, 0, 1))
        moves = self.filled(RULES, LOG, PLAIN, ("a", ((-1, "R1", 0), (1, "R2", 0))))
        many = len(carry_squares(RULES, LOG, PLAIN)[2][2][1])
        self.assertEqual(moves[:2], [("swap", 0, "D2", 0, 0, -1), ("swap", many, "D1", 0, 0, 1)])

    def test_a_way_that_needs_no_moves(self):
        self.assertEqual(carried_filling(RULES, LOG, PLAIN, ("a", ())), [])
        self.assertEqual(carried_filling(RULES, [], [], ("a", ())), [])

    def test_without_a_log_it_is_settling(self):
        rules = Rules("ab", [("R1", "ba", "ab"), ("E", "aa", "")])
        squares = plain_squares(rules)
        luck = random.Random(71)
        for _ in range(30):
            way = some_way(luck, rules, 6)
            self.assertEqual(carried_filling(rules, [], squares, way), settle(rules, squares, way))
            self.assertEqual(carried_between(rules, [], squares, way, way),
                             settle(rules, squares, way)
                             + turn_moves(rules, squares, way, settle(rules, squares, way)))

    def test_errors_in_order(self):
        wrong = [("?", ("?", ()), ("", ()))]
        self.refuses(BadLog(0), carried_filling, RULES, LOG[1:], wrong, ("?", ()))
        self.refuses(BadSquare("?"), carried_filling, RULES, LOG, wrong, ("?", ()))
        self.refuses(BadWord("?"), carried_filling, RULES, LOG, PLAIN, ("?", ()))
        self.refuses(Unknown("N1"), carried_filling, RULES, LOG, PLAIN, ("b", ((1, "N1", 0),)))
        # All arguments are examined before the carried squares are formed.
        many = [(f"S{at}", ("", ()), ("", ())) for at in range(39)]
        self.refuses(BadWord("?"), carried_filling, RULES, LOG, many, ("?", ()))
        self.refuses(TooMany(), carried_filling, RULES, LOG, many, ("a", ()))

    def test_carried_squares_are_formed_first(self):
        word = "a" * 31 + "b"
        longer = ("L", (word, ((1, "N1", 31), (-1, "N1", 31))), (word, ()))
        self.refuses(TooLong(), carried_filling, RULES, LOG, [longer], ("a", ()))
        many = [(f"S{at}", ("", ()), ("", ())) for at in range(39)]
        self.refuses(TooMany(), carried_filling, RULES, LOG, many, ("a", ()))
        # Before what the filling itself lacks, and before what is too long in it.
        loop = ("ab", ((1, "R1", 0), (-1, "R1", 0)) * 60)
        self.refuses(TooMany(), carried_filling, RULES, LOG, many, loop)
        self.refuses(TooLong(), carried_filling, RULES, LOG, many[:38], loop)

    def test_settling_comes_before_the_moves_over_the_first_rules(self):
        # Over the first rules N has a word of one letter more, which is too long at the begin of the way.
        rules = Rules("abc", [("A", "a", ""), ("C", "c", ""), ("D", "c", "")])
        log = [("add", "N", "a", "", ("a", ((-1, "A", 0), (1, "A", 0), (1, "A", 0)))),
               ("drop", "A", "a", "", ("a", ((1, "N", 0),)))]
        peak = ((-1, "C", 0), (1, "D", 0))
        self.assertEqual(len(carried_filling(rules, log, [], ("b" * 30 + "a", ((1, "A", 30),)))), 7)
        self.refuses(TooLong(), carried_filling, rules, log, [], ("b" * 31 + "a", ((1, "A", 31),)))
        self.refuses(Lacking("c", (1, "C", 0), (1, "D", 0)), carried_filling, rules, log, [],
                     ("b" * 31 + "a", ((1, "A", 31),) + peak))


class TestCounts(Case):

    RULES = Rules("ab", [("A", "a", ""), ("B", "b", "")])

    def log(self, one, other):
        """N1 and N2 are A and B with reasons of so many steps, and A and B are dropped."""
        log = []
        for name, letter, steps in [("N1", "a", one), ("N2", "b", other)]:
            rule = letter.upper()
            row = ((1, rule, 0), (-1, rule, 0)) * (steps // 2) + ((1, rule, 0),)
            log.append(("add", name, letter, "", (letter, row)))
        return log + [("drop", "A", "a", "", ("a", ((1, "N1", 0),))), ("drop", "B", "b", "", ("b", ((1, "N2", 0),)))]

    def test_each_move_is_many_moves(self):
        # Four swaps; then one exchange and two drops over the final rules.
        way = ("", ((-1, "A", 0), (-1, "B", 1), (1, "A", 0), (1, "B", 0)))
        inner = write_in(self.RULES, self.log(1, 1), way)
        kinds = [move[0] for move in settle(log_rules(self.RULES, self.log(1, 1)), [], inner)]
        self.assertEqual(kinds, ["exchange", "drop", "drop"])
        for one, other in [(1, 1), (3, 5), (7, 9), (19, 17), (17, 19), (17, 21), (19, 19), (21, 19), (29, 29)]:
            number = 4 + one * other + one + other
            if number <= 400:
                self.assertEqual(len(carried_filling(self.RULES, self.log(one, other), [], way)), number)
            else:
                self.refuses(TooMany(), carried_filling, self.RULES, self.log(one, other), [], way)

    # N is A, and A is dropped.
    LOG = [("add", "N", "a", "", ("a", ((1, "A", 0),))), ("drop", "A", "a", "", ("a", ((1, "N", 0),)))]

    def test_both_counts(self):
        self.assertEqual(len(carried_filling(MIXED, [], [], long_loop(349))), 400)
        self.refuses(TooMany(), carried_filling, MIXED, [], [], long_loop(350))
        # 400 moves over the final rules, but with the swaps there are more over the first ones.
        inner = write_in(MIXED, self.LOG, long_loop(349))
        self.assertEqual(len(settle(log_rules(MIXED, self.LOG), [], inner)), 400)
        self.refuses(TooMany(), carried_filling, MIXED, self.LOG, [], long_loop(349))
        # The steps of A are 31 steps back and as many steps on.
        self.assertEqual(len(carried_filling(MIXED, self.LOG, [], long_loop(287))), 400)
        self.refuses(TooMany(), carried_filling, MIXED, self.LOG, [], long_loop(288))

    def test_a_grow_is_written_out_before_its_moves_are_counted(self):
        # X has a word of one letter more over the first rules; it is grown at a word of 32 or 31 letters.
        rules = Rules("abcde", [("A", "a", ""), ("B", "b", ""), ("C", "c", ""), ("D", "c", "e"), ("F", "e", "")],
                      weights=[1, 1, 2, 1, 1])
        log = [("add", "X", "e", "", ("e", ((-1, "A", 0), (1, "A", 0), (1, "F", 0))))] + self.LOG
        squares = [("S", ("c", ((1, "C", 0),)), ("c", ((1, "D", 0), (1, "X", 0)))),
                   ("T", ("e", ((1, "F", 0),)), ("e", ((1, "X", 0),)))]
        peak = ((-1, "C", 0), (1, "D", 0), (1, "F", 0))
        for number, last, error in [(317, 31, TooLong()), (318, 31, TooLong()), (319, 31, TooMany()),
                                    (319, 30, TooMany()), (320, 30, TooMany()), (200, 31, TooLong()), (200, 30, None)]:
            steps = ((-1, "B", 0),) * 20 + taken_out(costs_of(number, last)) + peak + ((1, "A", 0),) * last
            self.assertEqual(max(map(len, way_words(rules, ("", steps)))), last + 1)
            if error is None:
                self.assertGreater(len(carried_filling(rules, log, squares, ("", steps))), number)
            else:
                self.refuses(error, carried_filling, rules, log, squares, ("", steps))
            inner = write_in(rules, log, ("", steps))
            self.assertLessEqual(len(settle(log_rules(rules, log), squares, inner)), 400)


class TestCarriedBetween(Case):

    def test_from_one_way_to_the_other(self):
        luck = random.Random(73)
        for rules in COMPLETED:
            final, log = complete(rules)
            squares = plain_squares(final)
            carried = carry_squares(rules, log, squares)
            done = 0
            for _ in range(60):
                one = some_way(luck, rules, 2, 3)
                loop = some_way(luck, rules, 1, 3)
                other = join_ways(rules, join_ways(rules, one, turn_way(rules, one)), one)
                for first, second in [(one, other), (other, one), (one, one), (loop, loop)]:
                    try:
                        moves = carried_between(rules, log, squares, first, second)
                    except (TooLong, TooMany):
                        continue
                    done += 1
                    self.assertEqual(do_moves(rules, carried, first, moves), second)
                    back = turn_moves(rules, carried, second, carried_filling(rules, log, squares, second))
                    self.assertEqual(moves, carried_filling(rules, log, squares, first) + back)
            self.assertGreater(done, 10)

    def test_errors_in_order(self):
        wrong = [("?", ("?", ()), ("", ()))]
        self.refuses(BadLog(0), carried_between, RULES, LOG[1:], wrong, ("?", ()), ("!", ()))
        self.refuses(BadSquare("?"), carried_between, RULES, LOG, wrong, ("?", ()), ("!", ()))
        self.refuses(BadWord("?"), carried_between, RULES, LOG, PLAIN, ("?", ()), ("!", ()))
        self.refuses(BadWord("!"), carried_between, RULES, LOG, PLAIN, ("ab", ()), ("!", ()))
        self.refuses(BadStep(0), carried_between, RULES, LOG, PLAIN, ("ab", ()), ("b", ((1, "R1", 0),)))

    def test_ends_that_differ(self):
        many = [(f"S{at}", ("", ()), ("", ())) for at in range(39)]
        for one, other in [(("ab", ()), ("a", ())), (("ab", ((1, "R1", 0),)), ("ab", ((1, "R2", 0),))),
                           (("ab", ()), ("ab", ((1, "R2", 0),)))]:
            self.refuses(BadEnds(), carried_between, RULES, LOG, PLAIN, one, other)
            # Before all errors of point 83.
            self.refuses(BadEnds(), carried_between, RULES, LOG, many, one, other)
        self.refuses(TooMany(), carried_between, RULES, LOG, many, ("ab", ()), ("ab", ()))

    def test_400_and_401_moves_together(self):
        # Each way takes 51 drops and 62 swaps beside its exchanges.
        one, other = long_loop(87), long_loop(88)
        self.assertEqual(len(carried_between(MIXED, TestCounts.LOG, [], one, one)), 400)
        for first, second in [(other, one), (one, other), (other, other)]:
            self.refuses(TooMany(), carried_between, MIXED, TestCounts.LOG, [], first, second)


if __name__ == "__main__":
    unittest.main()
