"""Carrying ways and squares between the first and the final rules of a log."""

from wayfill.completion import log_rules
from wayfill.errors import TooLong, TooMany
from wayfill.fill import Filling, check_ends, settled, there_and_back
from wayfill.moves import Course
from wayfill.rules import free_names
from wayfill.squares import check_squares
from wayfill.steps import shift_steps, turn_steps
from wayfill.ways import check_way
from wayfill.words import SQUARES, WAY


def spread(step, reasons):
    """The steps that replace the step of a rule that has a reason, by the names of the rules."""
    sign, name, place = step
    steps = reasons[name][1]
    return shift_steps(steps if sign == 1 else turn_steps(steps), place)


def _spread_all(steps, reasons):
    """The steps, with each one of a rule that has a reason replaced until there are none."""
    done = []
    waiting = list(reversed(steps))
    while waiting:
        step = waiting.pop()
        if step[1] in reasons:
            waiting.extend(list(reversed(spread(step, reasons))))
        else:
            done.append(step)
        # No reason is empty, so what is too long here stays too long.
        if len(done) + len(waiting) > WAY:
            raise TooLong()
    return tuple(done)


def replaced_way(rules, way, reasons):
    """The way over the rules that is left when all steps of rules with a reason are replaced."""
    replaced = way[0], _spread_all(way[1], reasons)
    check_way(rules, replaced)
    return replaced


class Ledger:
    """The first and the final rules of a log, and its reasons by the names of the rules."""

    def __init__(self, rules, log):
        self.first = rules
        self.final = log_rules(rules, log)
        self.added = {entry[1]: entry[4] for entry in log if entry[0] == "add"}
        self.dropped = {entry[1]: entry[4] for entry in log if entry[0] == "drop"}
        self.lengths = {}

    def outward(self, way):
        """The way over the first rules for one over the final rules."""
        return replaced_way(self.first, way, self.added)

    def inward(self, way):
        """The way over the final rules for one over the first rules."""
        return replaced_way(self.final, way, self.dropped)

    def length(self, steps):
        """The number of the steps when they are written out."""
        for sign, name, place in steps:
            if name not in self.lengths:
                self.lengths[name] = len(_spread_all(((1, name, 0),), self.added))
        return sum([self.lengths[step[1]] for step in steps])


def write_out(rules, log, way):
    """The way over the first rules for a way over the final rules."""
    ledger = Ledger(rules, log)
    check_way(ledger.final, way)
    return ledger.outward(way)


def write_in(rules, log, way):
    """The way over the final rules for a way over the first rules."""
    ledger = Ledger(rules, log)
    check_way(rules, way)
    return ledger.inward(way)


def _loop_square(ledger, name, rule):
    """The loop square of a first rule that was dropped."""
    way = ledger.first.left_of(rule), ((1, rule, 0),)
    return name, way, ledger.outward(ledger.inward(way))


def _carried_squares(ledger, squares):
    """The carried squares, and the loop square of each dropped first rule by the name of the rule."""
    rules = [name for name in ledger.dropped if name in ledger.first]
    if len(squares) + len(rules) > SQUARES:
        raise TooMany()
    carried = [(name, ledger.outward(one), ledger.outward(other)) for name, one, other in squares]
    names = free_names("D", len(rules), [square[0] for square in squares])
    loops = {rule: _loop_square(ledger, name, rule) for name, rule in zip(names, rules)}
    return carried + list(loops.values()), loops


def carry_squares(rules, log, squares):
    """The carried squares: those over the final rules written out, then the loop squares."""
    ledger = Ledger(rules, log)
    check_squares(ledger.final, squares)
    carried, loops = _carried_squares(ledger, squares)
    return carried


def _swap_dropped(work, loops, steps):
    """Swap each of the steps whose rule was dropped for what its loop square has."""
    at = 0
    for sign, name, place in steps:
        if name in loops:
            square = loops[name]
            work.act(("swap", at, square[0], place, 0, sign))
            at += len(square[2][1])
        else:
            at += 1


def _written_moves(ledger, course, move):
    """The moves over the first rules for a move over the final rules that is done next on the course."""
    at = move[1]
    begin = ledger.length(course.track[:at])
    if move[0] == "swap":
        return [("swap", begin) + move[2:]]
    if move[0] == "grow":
        steps = ledger.outward((course.visited[at], (move[2],)))[1]
        return [("grow", index, step) for index, step in enumerate(steps, start=begin)]
    many = ledger.length(course.track[at:at + 1])
    if move[0] == "drop":
        return [("drop", begin + index) for index in reversed(range(many))]
    further = ledger.length(course.track[at + 1:at + 2])
    return [("exchange", begin + index + less, move[2]) for index in range(further) for less in reversed(range(many))]


def _carried_work(ledger, squares, way):
    """The work over the first rules that leads the way to the normal way, written out."""
    carried, loops = _carried_squares(ledger, squares)
    inner = ledger.inward(way)
    moves = settled(ledger.final, squares, inner).done
    work = Filling(ledger.first, carried, way)
    _swap_dropped(work, loops, way[1])
    course = Course(ledger.final, squares, inner)
    for at, move in enumerate(moves):
        for written in _written_moves(ledger, course, move):
            work.act(written)
        course.make(move, at)
    return work


def carried_filling(rules, log, squares, way):
    """The moves with the carried squares that lead the way to the normal way, written out."""
    ledger = Ledger(rules, log)
    check_squares(ledger.final, squares)
    check_way(rules, way)
    return _carried_work(ledger, squares, way).done


def carried_between(rules, log, squares, one, other):
    """The moves with the carried squares that lead from the first way to the second one."""
    ledger = Ledger(rules, log)
    check_squares(ledger.final, squares)
    check_way(rules, one)
    check_way(rules, other)
    check_ends(rules, one, other)
    work = _carried_work(ledger, squares, one)
    return there_and_back(work, _carried_work(ledger, squares, other))
