"""Machines: they run scripts on a way."""

from wayfill.carrying import write_in
from wayfill.completion import complete
from wayfill.down import go_down, is_last, normal_way
from wayfill.errors import BadStep, Stopped, TooLong, WayfillError
from wayfill.fill import fill_loop, settled
from wayfill.rules import format_rules
from wayfill.script import LOOPS, parse_script
from wayfill.shorten import shorten
from wayfill.squares import check_squares, plain_squares
from wayfill.steps import checked_step, fitting_steps, turn_steps
from wayfill.ways import format_way, way_end
from wayfill.words import WAY, check_word, format_word, is_word

DEEDS = 400
DEEDS_OF = {"shorten": 20, "settle": 20, "fill": 20, "squares": 20, "complete": 20}


class Job:
    """One run: what it has made of the state of its machine so far."""

    def __init__(self, rules, squares, way, moves):
        self.over = rules
        self.held = squares
        self.line = way
        self.end = way_end(rules, way)
        self.spent = moves
        self.texts = []
        self.deeds = 0

    def go_on(self, steps, end):
        """Put the steps, which lead from the current word to this end, behind the way."""
        if len(self.line[1]) + len(steps) > WAY:
            raise TooLong()
        self.line = self.line[0], self.line[1] + steps
        self.end = end

    def count_deeds(self, many, path):
        """Count so many deeds of the statement at the path, if there may be so many."""
        if self.deeds + many > DEEDS:
            raise Stopped(path)
        self.deeds += many


def _write(job, statement):
    """Make the way the empty way at the word."""
    word = statement[1]
    check_word(job.over.letters, word)
    job.line = word, ()
    job.end = word


def _least_place(job, sign, name):
    """The least place at which the step fits the current word."""
    for step in fitting_steps(job.over, job.end, sign):
        if step[1] == name:
            return step[2]
    raise BadStep(0)


def _step(job, statement):
    """Put the step at the end of the way."""
    kind, name, place = statement
    sign = 1 if kind == "on" else -1
    if place is None:
        place = _least_place(job, sign, name)
    step = sign, name, place
    job.go_on((step,), checked_step(job.over, job.end, step, 0))


def _down(job, statement):
    """Join the down way of the current word to the way."""
    steps, last = go_down(job.over, job.end)
    job.go_on(steps, last)


def _goto(job, statement):
    """Join the normal way to the word to the way."""
    word = statement[1]
    job.go_on(normal_way(job.over, job.end, word)[1], word)


def _turn(job, statement):
    """Turn the way about."""
    begin, steps = job.line
    job.line = job.end, turn_steps(steps)
    job.end = begin


def _shorten(job, statement):
    """Replace the way by its short form."""
    job.line, moves = shorten(job.over, job.line)
    job.spent += len(moves)


def _settle(job, statement):
    """Replace the way by the normal way with the same ends."""
    work = settled(job.over, job.held, job.line)
    job.line = work.course.present()
    job.spent += len(work.done)


def _fill(job, statement):
    """Replace the way, a loop, by the empty way."""
    job.spent += len(fill_loop(job.over, job.held, job.line))
    job.line = job.end, ()


def _squares(job, statement):
    """Replace the squares by the plain ones."""
    job.held = plain_squares(job.over)


def _complete(job, statement):
    """Complete the rules, and write the way in."""
    final, log = complete(job.over)
    job.line = write_in(job.over, log, job.line)
    job.over = final
    job.held = []


def _text_of(job, what):
    """The text that shows this."""
    if what == "word":
        return format_word(job.end)
    if what == "begin":
        return format_word(job.line[0])
    if what == "steps":
        return str(len(job.line[1]))
    if what == "moves":
        return str(job.spent)
    if what == "way":
        return format_way(job.line)
    return format_rules(job.over)


def _show(job, statement):
    """Show a text."""
    job.texts.append(_text_of(job, statement[1]))


ACTIONS = {"write": _write, "on": _step, "back": _step, "down": _down, "goto": _goto, "turn": _turn,
           "shorten": _shorten, "settle": _settle, "fill": _fill, "squares": _squares, "complete": _complete,
           "show": _show}


def _act(job, statement, path):
    """Do the work of a statement that is not a loop and has the path."""
    action = ACTIONS[statement[0]]
    try:
        action(job, statement)
    except WayfillError:
        raise Stopped(path) from None


def _run_each(job, statement, path):
    """Do a round of the body for each word."""
    kind, words, body = statement
    for word in words:
        job.count_deeds(1, path)
        _act(job, ("write", word), path)
        _run_all(job, body, path)


def _is_reached(job, word):
    """Whether the current word is the given one, or is last if none is given."""
    return is_last(job.over, job.end) if word is None else job.end == word


def _run_until(job, statement, path):
    """Do rounds of the body until the word is reached."""
    kind, word, body = statement
    if word is not None and not is_word(job.over.letters, word):
        raise Stopped(path)
    while not _is_reached(job, word):
        job.count_deeds(1, path)
        _run_all(job, body, path)


def _run_repeat(job, statement, path):
    """Do so many rounds of the body."""
    kind, number, body = statement
    for _ in range(number):
        job.count_deeds(1, path)
        _run_all(job, body, path)


RUNS = {"each": _run_each, "until": _run_until, "repeat": _run_repeat}


def _run_all(job, statements, path):
    """Run the statements, which are the script or the body of the loop at the path."""
    for at, statement in enumerate(statements):
        here = path + (at,)
        if statement[0] in LOOPS:
            action = RUNS[statement[0]]
            action(job, statement, here)
        else:
            job.count_deeds(DEEDS_OF.get(statement[0], 1), here)
            _act(job, statement, here)


class Machine:
    """Rules, squares, a way, a number of moves, and the texts shown."""

    def __init__(self, rules, *, squares=()):
        check_squares(rules, squares)
        self._rules = rules
        self._squares = list(squares)
        self._way = "", ()
        self._moves = 0
        self._shown = []

    @property
    def rules(self):
        """The rules."""
        return self._rules

    @property
    def squares(self):
        """The squares."""
        return list(self._squares)

    @property
    def way(self):
        """The way."""
        return self._way

    @property
    def word(self):
        """The current word, which is the end of the way."""
        return way_end(self._rules, self._way)

    @property
    def moves(self):
        """The number of moves that were done."""
        return self._moves

    @property
    def shown(self):
        """The texts that all runs have shown."""
        return list(self._shown)

    def run(self, text):
        """Run the script, and return the texts that it shows."""
        job = Job(self._rules, self._squares, self._way, self._moves)
        _run_all(job, parse_script(text), ())
        self._rules = job.over
        self._squares = job.held
        self._way = job.line
        self._moves = job.spent
        self._shown = self._shown + job.texts
        return job.texts
