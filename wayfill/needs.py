"""Which squares are needed, and which follow from the others."""

from wayfill.errors import BoundError, Lacking, TooMany, Unknown
from wayfill.fares import square_rows
from wayfill.fill import fill_loop
from wayfill.squares import boundary, check_squares
from wayfill.whole import independent_rows, row_rank

THIN = 12


def least_needed(rules, squares):
    """The rank of the count rows of the squares."""
    return row_rank(square_rows(rules, squares), width=len(rules))


def base_squares(rules, squares):
    """The names of the squares whose count row is not spanned by those before them."""
    rows = square_rows(rules, squares)
    return [squares[at][0] for at in independent_rows(rows, width=len(rules))]


def without_square(squares, name):
    """The list without all squares of this name."""
    kept = [square for square in squares if square[0] != name]
    if len(kept) == len(squares):
        raise Unknown(name)
    return kept


def follows(rules, squares, name):
    """The moves that fill the boundary of the square with the other ones, or None if a square is lacking."""
    check_squares(rules, squares)
    others = without_square(squares, name)
    square = [square for square in squares if square[0] == name][0]
    try:
        return fill_loop(rules, others, boundary(rules, square))
    except Lacking:
        return None


def _attempt(rules, squares, name):
    """What `follows` gives, and None where something is too long or too many."""
    try:
        return follows(rules, squares, name)
    except BoundError:
        return None


def thin(rules, squares):
    """The squares that are kept, and the papers of those that were taken out."""
    if len(squares) > THIN:
        raise TooMany()
    check_squares(rules, squares)
    kept = list(squares)
    papers = []
    for square in reversed(squares):
        moves = _attempt(rules, kept, square[0])
        if moves is not None:
            kept = without_square(kept, square[0])
            papers.append((square[0], moves))
    return kept, papers
