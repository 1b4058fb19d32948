"""Fares: numbers that no move with the squares can change."""

from wayfill.errors import BadEnds, BadFare, TooMany
from wayfill.squares import check_squares
from wayfill.ways import check_way, way_end, way_words
from wayfill.whole import kernel_rows

# The bounds of the lists of wide fares.
WIDE_RULES = 3
WIDE_LETTERS = 3
WIDE_SQUARES = 8


def _count_row(rules, way):
    """The count row of a way that was examined."""
    row = [0] * len(rules)
    for sign, name, place in way[1]:
        row[rules.rank_of(name)] += sign
    return row


def count_row(rules, way):
    """For each rule the number of its steps on minus that of its steps back."""
    check_way(rules, way)
    return _count_row(rules, way)


def _less(row, other):
    """The first row minus the second one."""
    return [number - less for number, less in zip(row, other)]


def _square_row(rules, square):
    """The count row of a square that was examined."""
    name, one, other = square
    return _less(_count_row(rules, one), _count_row(rules, other))


def square_rows(rules, squares):
    """The count rows of the squares, in order."""
    check_squares(rules, squares)
    return [_square_row(rules, square) for square in squares]


def _dot(row, other):
    """The sum of the products."""
    return sum([number * factor for number, factor in zip(row, other)])


def _check_fare(rules, fare):
    """Raise the error of a fare of another length."""
    if len(fare) != len(rules):
        raise BadFare()


def fare_of(rules, fare, way):
    """The fare of the way."""
    _check_fare(rules, fare)
    return _dot(fare, count_row(rules, way))


def fare_holds(rules, squares, fare):
    """Whether both legs of each square have the same fare."""
    rows = square_rows(rules, squares)
    _check_fare(rules, fare)
    return all([_dot(fare, row) == 0 for row in rows])


def list_fares(rules, squares):
    """The fares of the rules and the squares."""
    return kernel_rows(square_rows(rules, squares), width=len(rules))


# A wide fare is worked with as one flat row: the base, then the numbers of
# `lefts` rule by rule, then those of `rights`.


def _flat_fare(rules, fare):
    """The flat row of a wide fare; raises the error of a wrong length."""
    base, lefts, rights = fare
    for part in (base, lefts, rights):
        _check_fare(rules, part)
    flat = list(base)
    for numbers in lefts + rights:
        if len(numbers) != len(rules.letters):
            raise BadFare()
        flat.extend(numbers)
    return flat


def _parts(flat, many):
    """The row cut into parts of so many numbers."""
    return [flat[at:at + many] for at in range(0, len(flat), many)]


def _wide_fare(rules, flat):
    """The wide fare with this flat row."""
    many = len(rules)
    numbers = _parts(flat[many:], len(rules.letters))
    return flat[:many], numbers[:many], numbers[many:]


def _letter_counts(rules, word):
    """How often each letter is in the word."""
    return [word.count(letter) for letter in rules.letters]


def _flat_row(rules, base, lefts, rights):
    """A flat row with these tuples of a rank and its numbers: one in the base, then several rows of letters."""
    many = len(rules)
    row = [0] * (many + 2 * many * len(rules.letters))
    for rank, number in base:
        row[rank] += number
    for begin, parts in [(0, lefts), (many, rights)]:
        for rank, numbers in parts:
            first = many + (begin + rank) * len(rules.letters)
            for at, number in enumerate(numbers, start=first):
                row[at] += number
    return row


def _times(row, factor):
    """The row with each number multiplied."""
    return [number * factor for number in row]


def _wide_row(rules, way):
    """The row whose products with a flat wide fare have the wide fare of the way as their sum."""
    base = []
    lefts = []
    rights = []
    words = way_words(rules, way)
    # A step and the same step turned about have the same words around them.
    for word, after, (sign, name, place) in zip(words, words[1:], way[1]):
        rank = rules.rank_of(name)
        top = word if sign == 1 else after
        base.append((rank, sign))
        lefts.append((rank, _times(_letter_counts(rules, top[:place]), sign)))
        rights.append((rank, _times(_letter_counts(rules, top[place + len(rules.left_of(name)):]), sign)))
    return _flat_row(rules, base, lefts, rights)


def wide_fare_of(rules, fare, way):
    """The wide fare of the way."""
    flat = _flat_fare(rules, fare)
    return _dot(flat, _wide_row(rules, way))


def _lost_letters(rules, row):
    """How many of each letter a step on of the rule takes away."""
    name, left, right = row
    return _less(_letter_counts(rules, left), _letter_counts(rules, right))


def _rule_conditions(rules):
    """The flat rows of condition (1), for all pairs of rules."""
    rows = []
    for rank, rule in enumerate(rules):
        for other_rank, other in enumerate(rules):
            lefts = [(other_rank, _times(_lost_letters(rules, rule), -1))]
            rights = [(rank, _lost_letters(rules, other))]
            rows.append(_flat_row(rules, [], lefts, rights))
    return rows


def _square_conditions(rules, square):
    """The flat rows of condition (2) for the square."""
    name, one, other = square
    rows = [_less(_wide_row(rules, one), _wide_row(rules, other))]
    counts = _square_row(rules, square)
    for letter in rules.letters:
        marks = _letter_counts(rules, letter)
        parts = [(rank, _times(marks, number)) for rank, number in enumerate(counts)]
        rows.append(_flat_row(rules, [], parts, []))
        rows.append(_flat_row(rules, [], [], parts))
    return rows


def _wide_conditions(rules, squares):
    """The flat rows whose products with a wide fare are 0 if and only if it holds."""
    rows = _rule_conditions(rules)
    for square in squares:
        rows.extend(_square_conditions(rules, square))
    return rows


def wide_fare_holds(rules, squares, fare):
    """Whether the wide fare holds for the rules and the squares."""
    check_squares(rules, squares)
    flat = _flat_fare(rules, fare)
    return all([_dot(flat, row) == 0 for row in _wide_conditions(rules, squares)])


def _wide_fares(rules, squares):
    """The wide fares for squares that were examined; raises TooMany."""
    if len(rules) > WIDE_RULES or len(rules.letters) > WIDE_LETTERS or len(squares) > WIDE_SQUARES:
        raise TooMany()
    many = len(rules)
    rows = kernel_rows(_wide_conditions(rules, squares), width=many + 2 * many * len(rules.letters))
    return [_wide_fare(rules, row) for row in rows]


def list_wide_fares(rules, squares):
    """The wide fares of the rules and the squares."""
    check_squares(rules, squares)
    return _wide_fares(rules, squares)


def obstacle(rules, squares, way, *, wide=False):
    """The first fare, or wide fare, that is not 0 on the loop, or None."""
    check_squares(rules, squares)
    if way_end(rules, way) != way[0]:
        raise BadEnds()
    if wide:
        fares = [(fare, wide_fare_of(rules, fare, way)) for fare in _wide_fares(rules, squares)]
    else:
        fares = [(fare, fare_of(rules, fare, way)) for fare in list_fares(rules, squares)]
    for fare, number in fares:
        if number != 0:
            return fare
    return None
