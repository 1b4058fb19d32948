"""Shortening ways by drops and exchanges, and the layers of ways that moves lead to."""

from wayfill.errors import BadNumber, TooLong, TooMany, WayfillError
from wayfill.fill import check_ends
from wayfill.moves import Course, next_ways
from wayfill.squares import check_squares
from wayfill.steps import turn_step
from wayfill.ways import check_way

LONGEST = 20
STEPS = 6
DEPTH = 6
WAYS = 100


def _pull(course, at):
    """Exchange the steps at this index and behind it; the move for this, or None if none fits."""
    for side in ("left", "right"):
        move = "exchange", at, side
        try:
            course.make(move, 0)
            return move
        except WayfillError:
            # Where both sides fit, they are too long together, so the other side may be tried at any rate.
            continue
    return None


def _without_pair(rules, way, first, second):
    """The way without the steps at these indexes, and the moves for this, or None if they do not come together."""
    course = Course(rules, [], way)
    moves = []
    for at in reversed(range(first + 1, second)):
        move = _pull(course, at)
        if move is None:
            return None
        moves.append(move)
    if course.track[first + 1] != turn_step(course.track[first]):
        return None
    drop = "drop", first
    course.make(drop, 0)
    return course.present(), moves + [drop]


def _without_first_pair(rules, way):
    """The way without the first pair of steps that come together, and the moves for this, or None."""
    steps = way[1]
    for first in range(len(steps)):
        for second in range(first + 1, len(steps)):
            # Exchanges keep the sign and the name of a step.
            if steps[second][:2] == turn_step(steps[first])[:2]:
                found = _without_pair(rules, way, first, second)
                if found is not None:
                    return found
    return None


def shorten(rules, way):
    """The short form of the way, and the moves that lead to it."""
    check_way(rules, way)
    if len(way[1]) > LONGEST:
        raise TooLong()
    moves = []
    found = _without_first_pair(rules, way)
    while found is not None:
        way, done = found
        moves.extend(done)
        found = _without_first_pair(rules, way)
    return way, moves


def _check_numbers(ways, steps, depth):
    """Raise the errors of the bounds of layers that begin at one of the ways and may have the others."""
    if not max([len(way[1]) for way in ways]) <= steps <= STEPS:
        raise BadNumber(steps)
    if not 0 <= depth <= DEPTH:
        raise BadNumber(depth)


def _layers(rules, squares, way, steps, depth):
    """The layers of the way, and for each further way the one that it was found from and the move between them."""
    layers = [[way]]
    origins = {way: None}
    for _ in range(depth):
        layer = []
        for known in layers[-1]:
            for move, result in next_ways(Course(rules, squares, known), squares, steps):
                if result not in origins:
                    origins[result] = known, move
                    layer.append(result)
            if len(origins) > WAYS:
                raise TooMany()
        if not layer:
            break
        layers.append(layer)
    return layers, origins


def move_layers(rules, squares, way, *, steps, depth):
    """The layers of the way, each a list of ways."""
    check_squares(rules, squares)
    check_way(rules, way)
    _check_numbers([way], steps, depth)
    layers, origins = _layers(rules, squares, way, steps, depth)
    return layers


def _layers_between(rules, squares, one, other, steps, depth):
    """What `_layers` gives for the first way, after all arguments are examined."""
    check_squares(rules, squares)
    check_way(rules, one)
    check_way(rules, other)
    _check_numbers([one, other], steps, depth)
    check_ends(rules, one, other)
    return _layers(rules, squares, one, steps, depth)


def least_moves(rules, squares, one, other, *, steps, depth):
    """The distance of the two ways, or None."""
    layers, origins = _layers_between(rules, squares, one, other, steps, depth)
    for number, layer in enumerate(layers):
        if other in layer:
            return number
    return None


def least_row(rules, squares, one, other, *, steps, depth):
    """A shortest row of moves from the first way to the second one, or None."""
    layers, origins = _layers_between(rules, squares, one, other, steps, depth)
    if other not in origins:
        return None
    moves = []
    origin = origins[other]
    while origin is not None:
        before, move = origin
        moves.append(move)
        origin = origins[before]
    return list(reversed(moves))
