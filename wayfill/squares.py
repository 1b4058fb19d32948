"""Squares: pairs of ways with the same begin and the same end."""

from wayfill.down import go_down
from wayfill.errors import BadName, BadOverlap, BadSquare, BadText, Open, Repeated, TooLong, TooMany, Unjoined
from wayfill.overlaps import is_overlap, list_overlaps
from wayfill.rules import is_name
from wayfill.steps import after_step
from wayfill.ways import format_way, is_way, join_ways, leads_to, read_steps, turn_way, way_end
from wayfill.words import SQUARES, WAY, read_word


def is_square(rules, square):
    """Whether the tuple is a square."""
    name, one, other = square
    if not is_name(name) or not is_way(rules, one):
        return False
    return leads_to(rules, other, one[0], way_end(rules, one))


def check_square(rules, square):
    """Raise the error of a tuple that is not a square."""
    if not is_square(rules, square):
        raise BadSquare(square[0])


def check_squares(rules, squares):
    """Raise the errors of what is to be a list of squares."""
    if len(squares) > SQUARES:
        raise TooMany()
    names = {}
    for square in squares:
        check_square(rules, square)
        if square[0] in names:
            raise Repeated(square[0])
        names[square[0]] = True


def leg_for(square, overlap):
    """The index of the leg that begins with the first step of the overlap if the square answers it, or None."""
    name, one, other = square
    word, first, second = overlap
    if one[0] != word or not all([step[0] == 1 for step in one[1] + other[1]]):
        return None
    begins = one[1][:1] + other[1][:1]
    if begins == (first, second):
        return 0
    if begins == (second, first):
        return 1
    return None


def answering_leg(rules, square, overlap):
    """The index of the leg that begins with the first step of the overlap if the square answers it, or None."""
    check_square(rules, square)
    if not is_overlap(rules, overlap):
        raise BadOverlap()
    return leg_for(square, overlap)


def _is_lacking(squares, overlap):
    """Whether no square of the list answers the overlap."""
    return all([leg_for(square, overlap) is None for square in squares])


def lacking_overlaps(rules, squares):
    """The overlaps that no square of the list answers, in order."""
    check_squares(rules, squares)
    return [overlap for overlap in list_overlaps(rules) if _is_lacking(squares, overlap)]


def leg_down(rules, word, step):
    """The step and those of the down way of its result, perhaps too many for a way, and the last word there."""
    steps, last = go_down(rules, after_step(rules, word, step))
    return (step,) + steps, last


def _plain_square(rules, overlap, name):
    """The plain square of an overlap that was examined."""
    word, one, other = overlap
    steps, last = leg_down(rules, word, one)
    other_steps, other_last = leg_down(rules, word, other)
    if max(len(steps), len(other_steps)) > WAY:
        raise TooLong()
    if last != other_last:
        raise Unjoined(last, other_last)
    return name, (word, steps), (word, other_steps)


def plain_square(rules, overlap, *, name):
    """The plain square of the overlap."""
    if not is_overlap(rules, overlap):
        raise BadOverlap()
    if not is_name(name):
        raise BadName(name)
    return _plain_square(rules, overlap, name)


def _closed_square(rules, overlap, name):
    """The plain square of an overlap that must not be open."""
    word, one, other = overlap
    try:
        return _plain_square(rules, overlap, name)
    except Unjoined:
        raise Open(word, one, other) from None


def plain_squares(rules):
    """The plain squares of all overlaps, in order."""
    overlaps = list_overlaps(rules)
    if len(overlaps) > SQUARES:
        raise TooMany()
    return [_closed_square(rules, overlap, f"Q{number}") for number, overlap in enumerate(overlaps, start=1)]


def boundary(rules, square):
    """The way along leg 0 and back along leg 1."""
    check_square(rules, square)
    name, one, other = square
    return join_ways(rules, one, turn_way(rules, other))


def exchange_legs(square):
    """The square with its legs exchanged."""
    name, one, other = square
    return name, other, one


def format_square(square):
    """The text of the square."""
    name, one, other = square
    return f"{name} {format_way(one)} = {format_way(other)}"


def _read_leg(rules, pieces, number):
    """The leg that the pieces write, of which the first one has this number in its text."""
    if not pieces:
        raise BadText(number)
    begin = read_word(rules.letters, pieces[0], number)
    return begin, read_steps(rules, begin, pieces[1:], number + 1)


def _end_of_leg(pieces):
    """The index of the piece that ends leg 0, or the number of pieces."""
    # The piece at index 1 is always the begin of leg 0.
    for at in range(2, len(pieces)):
        if pieces[at] == "=":
            return at
    return len(pieces)


def parse_square(rules, text):
    """The square with this text."""
    pieces = text.split(" ")
    if not is_name(pieces[0]):
        raise BadText(1)
    middle = _end_of_leg(pieces)
    one = _read_leg(rules, pieces[1:middle], 2)
    other = _read_leg(rules, pieces[middle + 1:], middle + 2) if middle < len(pieces) else None
    if other is None or not leads_to(rules, other, one[0], way_end(rules, one)):
        raise BadText(len(pieces) + 1)
    return pieces[0], one, other
