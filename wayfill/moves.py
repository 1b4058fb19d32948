"""Moves: small changes of the steps of a way that leave its begin and its end as they are."""

from wayfill.errors import BadMove, BadNumber, TooLong, TooMany, WayfillError
from wayfill.squares import check_squares
from wayfill.steps import after_step, fitting_steps, shift_step, shift_steps, stands_in
from wayfill.steps import step_input, step_output, turn_step, turn_steps
from wayfill.ways import way_end, way_words
from wayfill.words import MOVES, WAY, WORD, places_of, stands_at

# An effect of a move is a tuple of the index at which it begins, the number
# of steps that it takes out there and the steps that it puts in.


def _drop_effect(course, at):
    """The effect of a drop, or None if it does not fit."""
    if not 0 <= at < len(course.track) - 1:
        return None
    if course.track[at + 1] != turn_step(course.track[at]):
        return None
    return at, 2, ()


def _grow_effect(course, at, step):
    """The effect of a grow, or None if it does not fit."""
    if not 0 <= at <= len(course.track) or not stands_in(course.over, course.visited[at], step):
        return None
    return at, 0, (step, turn_step(step))


def _exchange_effect(course, at, side):
    """The effect of an exchange, or None if it does not fit."""
    if not 0 <= at < len(course.track) - 1:
        return None
    first, second = course.track[at:at + 2]
    size, second_size = len(step_input(course.over, first)), len(step_input(course.over, second))
    put, second_put = len(step_output(course.over, first)), len(step_output(course.over, second))
    if side == "left" and second[2] + second_size <= first[2]:
        return at, 2, (second, shift_step(first, second_put - second_size))
    if side == "right" and second[2] >= first[2] + put:
        return at, 2, (shift_step(second, size - put), first)
    return None


def _leg_row(square, leg, sign):
    """The steps of the leg in the direction of the sign."""
    steps = square[1 + leg][1]
    return steps if sign == 1 else turn_steps(steps)


def _swap_begin(course, square, sign):
    """The word at which the rows of a swap begin."""
    if sign == 1:
        return square[1][0]
    name = square[0]
    if name not in course.ends:
        course.ends[name] = way_end(course.over, square[1])
    return course.ends[name]


def _swap_effect(course, at, name, place, leg, sign):
    """The effect of a swap, or None if it does not fit."""
    if name not in course.known or leg not in (0, 1) or sign not in (1, -1):
        return None
    if place < 0 or not 0 <= at <= len(course.track):
        return None
    square = course.known[name]
    taken = shift_steps(_leg_row(square, leg, sign), place)
    if course.track[at:at + len(taken)] != taken:
        return None
    # An empty row is there anywhere, so the word tells whether it may be taken out.
    if not stands_at(_swap_begin(course, square, sign), course.visited[at], place):
        return None
    return at, len(taken), shift_steps(_leg_row(square, 1 - leg, sign), place)


def _effect(course, move):
    """The effect of the move, or None if it does not fit."""
    if move[0] == "drop":
        return _drop_effect(course, move[1])
    if move[0] == "grow":
        return _grow_effect(course, move[1], move[2])
    if move[0] == "exchange":
        return _exchange_effect(course, move[1], move[2])
    if move[0] == "swap":
        kind, at, name, place, leg, sign = move
        return _swap_effect(course, at, name, place, leg, sign)
    return None


def _result(course, effect, most):
    """The words and the steps after the effect, or None if a word is too long or there are more steps than `most`."""
    at, many, put = effect
    track = course.track[:at] + put + course.track[at + many:]
    if len(track) > most:
        return None
    words = [course.visited[at]]
    for step in put:
        words.append(after_step(course.over, words[-1], step))
    if max([len(word) for word in words]) > WORD:
        return None
    return course.visited[:at] + words + course.visited[at + many + 1:], track


def _turned(track, move):
    """The move turned about, for one that fits a way with these steps."""
    if move[0] == "drop":
        return "grow", move[1], track[move[1]]
    if move[0] == "grow":
        return "drop", move[1]
    if move[0] == "exchange":
        return "exchange", move[1], "right" if move[2] == "left" else "left"
    kind, at, name, place, leg, sign = move
    return kind, at, name, place, 1 - leg, sign


class Course:
    """A way that moves change, with the words that it visits."""

    def __init__(self, rules, squares, way):
        self.over = rules
        self.known = {square[0]: square for square in squares}
        self.ends = {}
        self.visited = way_words(rules, way)
        self.track = way[1]

    def present(self):
        """The way as it is now."""
        return self.visited[0], self.track

    def make(self, move, at):
        """Do the move, which has the index `at` in its row, and return it turned about."""
        effect = _effect(self, move)
        if effect is None:
            raise BadMove(at)
        result = _result(self, effect, WAY)
        if result is None:
            raise TooLong()
        turned = _turned(self.track, move)
        self.visited, self.track = result
        return turned


def _examined_course(rules, squares, way):
    """The course of a way, after the squares and the way are examined."""
    check_squares(rules, squares)
    return Course(rules, squares, way)


def _make_all(course, moves):
    """Do the moves of a row and return them turned about, in the order in which they were done."""
    if len(moves) > MOVES:
        raise TooMany()
    return [course.make(move, at) for at, move in enumerate(moves)]


def do_move(rules, squares, way, move):
    """The way after the move."""
    course = _examined_course(rules, squares, way)
    course.make(move, 0)
    return course.present()


def move_fits(rules, squares, way, move):
    """Whether the move fits and its result is not too long."""
    try:
        do_move(rules, squares, way, move)
    except WayfillError:
        return False
    return True


def do_moves(rules, squares, way, moves):
    """The way after the row of moves."""
    course = _examined_course(rules, squares, way)
    _make_all(course, moves)
    return course.present()


def turn_move(rules, squares, way, move):
    """The move turned about."""
    return _examined_course(rules, squares, way).make(move, 0)


def turn_moves(rules, squares, way, moves):
    """The row of moves turned about."""
    turned = _make_all(_examined_course(rules, squares, way), moves)
    return list(reversed(turned))


def leads(rules, squares, one, moves, other):
    """Whether the row of moves leads from the way `one` to the way `other`."""
    try:
        return do_moves(rules, squares, one, moves) == other
    except WayfillError:
        return False


def _shift_move(move, at, place):
    """The move with its index and its place moved."""
    if move[0] == "grow":
        return "grow", move[1] + at, shift_step(move[2], place)
    if move[0] == "swap":
        return ("swap", move[1] + at, move[2], move[3] + place) + move[4:]
    return (move[0], move[1] + at) + move[2:]


def shift_moves(moves, *, at=0, place=0):
    """The row of moves with all indexes and places moved."""
    return [_shift_move(move, at, place) for move in moves]


def _swap_places(course, at, row, begin):
    """The places at which the row may stand in the way at this index, with the word `begin` there."""
    if not row:
        return places_of(begin, course.visited[at])
    return [step[2] - row[0][2] for step in course.track[at:at + 1] if step[:2] == row[0][:2]]


def _square_swaps(course, square, most):
    """The swaps with this square that may fit, as tuples of at, place, leg and the sign turned about."""
    found = []
    for leg, sign in [(0, 1), (0, -1), (1, 1), (1, -1)]:
        row = _leg_row(square, leg, sign)
        begin = _swap_begin(course, square, sign)
        many = len(course.track)
        if many - len(row) + len(square[2 - leg][1]) <= most:
            for at in range(many + 1):
                found.extend([(at, place, leg, -sign) for place in _swap_places(course, at, row, begin)])
    return found


def _swaps(course, squares, most):
    """The swaps that may fit, in the move order."""
    found = []
    for rank, square in enumerate(squares):
        swaps = _square_swaps(course, square, most)
        found.extend([(at, rank, place, leg, turned) for at, place, leg, turned in swaps])
    return [("swap", at, squares[rank][0], place, leg, -turned) for at, rank, place, leg, turned in sorted(found)]


def _grows(course):
    """The grows whose words are not too long, in the move order."""
    found = []
    for at, word in enumerate(course.visited):
        fitting = fitting_steps(course.over, word, 1) + fitting_steps(course.over, word, -1)
        found.extend([("grow", at, step) for step in fitting])
    return found


def _candidates(course, squares, most):
    """All moves that may fit the course and leave at most so many steps, in the move order."""
    many = len(course.track)
    moves = [("drop", at) for at in range(many)]
    moves.extend([("exchange", at, side) for at in range(many) for side in ("left", "right")])
    moves.extend(_swaps(course, squares, most))
    if many + 2 <= most:
        moves.extend(_grows(course))
    return moves


def next_ways(course, squares, most):
    """All moves that fit the course and leave at most so many steps, in the move order, each with its result."""
    found = []
    for move in _candidates(course, squares, most):
        effect = _effect(course, move)
        result = None if effect is None else _result(course, effect, most)
        if result is not None:
            words, track = result
            found.append((move, (words[0], track)))
        if len(found) > MOVES:
            raise TooMany()
    return found


def list_moves(rules, squares, way, *, steps):
    """All moves that fit the way and whose result has at most so many steps, in the move order."""
    course = _examined_course(rules, squares, way)
    if not 0 <= steps <= WAY:
        raise BadNumber(steps)
    return [move for move, result in next_ways(course, squares, steps)]
