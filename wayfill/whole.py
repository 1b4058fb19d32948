"""Rows of whole numbers: reduced rows, kernel rows and expressions."""

from math import gcd

from wayfill.errors import BadNumber, BadRow, TooMany

ROWS = 100
WIDTH = 24


def _check_rows(rows, width):
    """Raise the errors of rows that do not fit the width."""
    if len(rows) > ROWS:
        raise TooMany()
    if not 0 <= width <= WIDTH:
        raise BadNumber(width)
    for at, row in enumerate(rows):
        if len(row) != width:
            raise BadRow(at)


def _divisor(row):
    """The greatest common divisor of the numbers."""
    common = 0
    for number in row:
        common = gcd(common, number)
        if common == 1:
            return 1
    return common


def _lead(row):
    """The index of the first number that is not 0, or None."""
    for at, number in enumerate(row):
        if number != 0:
            return at
    return None


def _long_row(row, at, many):
    """The row and behind it `many` multipliers: 1 for itself, which is at `at`, and 0 for all others."""
    multipliers = [0] * many
    multipliers[at] = 1
    return list(row) + multipliers


def _cleared(row, by, at):
    """A multiple of the row plus one of `by`, with 0 at the index."""
    if row[at] == 0:
        return row
    common = gcd(row[at], by[at])
    factor = by[at] // common
    taken = row[at] // common
    mixed = [factor * number - taken * less for number, less in zip(row, by)]
    # Without this the numbers would double their digits with each row.
    shared = _divisor(mixed)
    return [number // shared for number in mixed]


def _cleared_by_all(row, basis):
    """The row with 0 in the column of each lead of the basis."""
    for lead, known in basis:
        row = _cleared(row, known, lead)
    return row


def _basis(rows, width, many):
    """A tuple of the basis and the indexes of the rows that it was made of.

    The basis is a list of leads with their long rows, with 0 in the columns
    of all other leads. The multipliers in a long row have been through all
    that the row has been through, so they stay those of the row.
    """
    basis = []
    used = []
    for at, row in enumerate(rows):
        # With a lead in each column every further row is spanned.
        if len(basis) == width:
            break
        long_row = _cleared_by_all(_long_row(row, at, many), basis)
        lead = _lead(long_row[:width])
        if lead is not None:
            basis = [(place, _cleared(known, long_row, lead)) for place, known in basis]
            basis.append((lead, long_row))
            used.append(at)
    return sorted(basis), used


def _reduced_rows(basis, width):
    """The reduced rows of a basis, and their expressions."""
    reduced = []
    papers = []
    for lead, long_row in basis:
        factor = _divisor(long_row[:width])
        sign = 1 if long_row[lead] > 0 else -1
        reduced.append([sign * number // factor for number in long_row[:width]])
        papers.append((factor, [sign * number for number in long_row[width:]]))
    return reduced, papers


def reduce_rows(rows, *, width):
    """The reduced rows, and an expression of each one."""
    _check_rows(rows, width)
    basis, used = _basis(rows, width, len(rows))
    return _reduced_rows(basis, width)


def _kernel_row(reduced, leads, column, width):
    """The kernel row of a column that is not a lead."""
    scale = 1
    for lead, row in zip(leads, reduced):
        scale = scale * row[lead] // gcd(scale, row[lead])
    kernel = [0] * width
    kernel[column] = scale
    for lead, row in zip(leads, reduced):
        kernel[lead] = -row[column] * (scale // row[lead])
    common = _divisor(kernel)
    return [number // common for number in kernel]


def kernel_rows(rows, *, width):
    """The kernel rows."""
    _check_rows(rows, width)
    basis, used = _basis(rows, width, len(rows))
    reduced, papers = _reduced_rows(basis, width)
    leads = [lead for lead, long_row in basis]
    return [_kernel_row(reduced, leads, column, width) for column in range(width) if column not in leads]


def row_rank(rows, *, width):
    """The number of reduced rows."""
    return len(independent_rows(rows, width=width))


def independent_rows(rows, *, width):
    """The indexes of the rows that are not spanned by those before them."""
    _check_rows(rows, width)
    basis, used = _basis(rows, width, len(rows))
    return used


def express(rows, target):
    """An expression of the target, or None."""
    width = len(target)
    _check_rows(rows, width)
    # The target has a multiplier of its own, the last one.
    basis, used = _basis(rows, width, len(rows) + 1)
    rest = _cleared_by_all(_long_row(target, len(rows), len(rows) + 1), basis)
    if _lead(rest[:width]) is not None:
        return None
    factor = rest[-1]
    sign = -1 if factor > 0 else 1
    return abs(factor), [sign * number for number in rest[width:-1]]


def _is_sum(rows, multipliers, row):
    """Whether the row is the sum of these multiples of the rows."""
    for at, number in enumerate(row):
        if sum([many * other[at] for many, other in zip(multipliers, rows)]) != number:
            return False
    return True


def is_expression(rows, target, paper):
    """Whether the paper is an expression of the target."""
    factor, multipliers = paper
    if len(rows) > ROWS or len(target) > WIDTH:
        return False
    if not all([len(row) == len(target) for row in rows]):
        return False
    if factor < 1 or len(multipliers) != len(rows):
        return False
    return _is_sum(rows, multipliers, [factor * number for number in target])
