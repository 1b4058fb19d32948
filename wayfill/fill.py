"""Filling: the moves that lead a way to the normal way, and a loop to the empty way."""

from wayfill.down import down_way
from wayfill.errors import BadEnds, Lacking, TooMany
from wayfill.moves import Course
from wayfill.overlaps import meeting
from wayfill.squares import check_squares, leg_for
from wayfill.steps import shift_step, shift_steps, turn_step
from wayfill.ways import check_way, way_end
from wayfill.words import MOVES


class Filling:
    """A course, and the moves that were done on it since the work began."""

    def __init__(self, rules, squares, way):
        self.course = Course(rules, squares, way)
        self.answers = list(squares)
        self.done = []
        self.turned = []

    def act(self, move):
        """Do the move if not too many were done already."""
        if len(self.done) == MOVES:
            raise TooMany()
        self.turned.append(self.course.make(move, len(self.done)))
        self.done.append(move)

    def way_back(self):
        """The row of the moves that were done, turned about."""
        return list(reversed(self.turned))


def _peak_of(steps):
    """The index of the first peak of a way with these steps, or None."""
    for at in range(len(steps) - 1):
        if steps[at][0] == -1 and steps[at + 1][0] == 1:
            return at
    return None


def first_peak(rules, way):
    """The index of the first peak of the way, or None."""
    check_way(rules, way)
    return _peak_of(way[1])


def _answer(squares, overlap):
    """The first square that answers the overlap, and its leg for the first step."""
    for square in squares:
        leg = leg_for(square, overlap)
        if leg is not None:
            return square, leg
    word, one, other = overlap
    raise Lacking(word, one, other)


def _replace_peak(work, at, place, overlap):
    """Treat the peak at this index, whose steps meet at the place in the overlap."""
    square, leg = _answer(work.answers, overlap)
    if shift_step(work.course.track[at + 1], -place) != overlap[1]:
        leg = 1 - leg
    for index, step in enumerate(shift_steps(square[1 + leg][1][1:], place), start=at + 2):
        work.act(("grow", index, step))
    work.act(("swap", at + 1, square[0], place, leg, 1))
    work.act(("drop", at))


def _treat_peak(work, at):
    """Treat the peak at this index."""
    course = work.course
    before = turn_step(course.track[at])
    after = course.track[at + 1]
    kind, place, overlap = meeting(course.over, course.visited[at + 1], before, after)
    if kind == "same":
        work.act(("drop", at))
    elif kind == "apart":
        work.act(("exchange", at, "left" if after[2] < before[2] else "right"))
    else:
        _replace_peak(work, at, place, overlap)


def _flatten(work):
    """Treat first peaks until there are none."""
    at = _peak_of(work.course.track)
    while at is not None:
        _treat_peak(work, at)
        at = _peak_of(work.course.track)


def flatten(rules, squares, way):
    """The flat way that the way is led to, and the moves for this."""
    check_squares(rules, squares)
    work = Filling(rules, squares, way)
    _flatten(work)
    return work.course.present(), work.done


def settled(rules, squares, way):
    """The work of settling a way, with squares that were examined."""
    work = Filling(rules, squares, way)
    down = down_way(rules, way[0])[1]
    end_down = down_way(rules, way_end(rules, way))[1]
    for at, step in enumerate(down):
        work.act(("grow", at, step))
    for at, step in enumerate(end_down, start=len(work.course.track)):
        work.act(("grow", at, step))
    _flatten(work)
    return work


def settle(rules, squares, way):
    """The moves that lead the way to the normal way with the same ends."""
    check_squares(rules, squares)
    return settled(rules, squares, way).done


def check_ends(rules, one, other):
    """Raise the error of two ways that have not the same begin and the same end."""
    if one[0] != other[0] or way_end(rules, one) != way_end(rules, other):
        raise BadEnds()


def there_and_back(work, other_work):
    """The moves of the one work and the way back of the other one, which led to the same way."""
    moves = work.done + other_work.way_back()
    if len(moves) > MOVES:
        raise TooMany()
    return moves


def fill_between(rules, squares, one, other):
    """The moves that lead from the first way to the second one."""
    check_squares(rules, squares)
    check_way(rules, one)
    check_way(rules, other)
    check_ends(rules, one, other)
    work = settled(rules, squares, one)
    return there_and_back(work, settled(rules, squares, other))


def fill_loop(rules, squares, way):
    """The moves that lead a loop to the empty way."""
    check_squares(rules, squares)
    if way_end(rules, way) != way[0]:
        raise BadEnds()
    work = settled(rules, squares, way)
    for at in reversed(range(len(work.course.track) // 2)):
        work.act(("drop", at))
    return work.done


def used_squares(moves):
    """The names of the squares in swaps, in the order of their first swap."""
    return list({move[2]: True for move in moves if move[0] == "swap"})


def _use(name, moves):
    """The use of the square of this name."""
    use = 0
    for move in moves:
        if move[0] == "swap" and move[2] == name:
            if move[4:] in ((0, 1), (1, -1)):
                use += 1
            elif move[4:] in ((1, 1), (0, -1)):
                use -= 1
    return use


def square_uses(squares, moves):
    """The use of each square of the list in the moves."""
    return [_use(square[0], moves) for square in squares]
