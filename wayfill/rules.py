"""Names and rules, orienting them, weights for them, and their text."""

from wayfill.errors import BadName, BadNumber, BadRule, BadText, Repeated, Rising
from wayfill.errors import TooLong, TooMany, Unknown, WayfillError
from wayfill.words import RULES, SIDE, are_weights, is_alphabet
from wayfill.words import check_letters, check_weights, check_word, compare_words
from wayfill.words import format_word, read_number, read_word

NAME = 8
MOST = 9
TRIES = 729


def is_name(text):
    """Whether the text is a name."""
    if not 1 <= len(text) <= NAME or "0" <= text[0] <= "9":
        return False
    return all(["A" <= character <= "Z" or "0" <= character <= "9" for character in text])


def _check_side(letters, side):
    """Raise the errors of a text that is to be a side."""
    check_word(letters, side)
    if len(side) > SIDE:
        raise TooLong()


def _check_rows(letters, rows, empty_left):
    """Raise the errors of the rows, of which a left side may be empty if this is True."""
    if len(rows) > RULES:
        raise TooMany()
    names = {}
    for name, left, right in rows:
        if not is_name(name):
            raise BadName(name)
        if name in names:
            raise Repeated(name)
        names[name] = True
        _check_side(letters, left)
        _check_side(letters, right)
        if left == right or left == "" and not empty_left:
            raise BadRule(name)


def _checked_weights(letters, weights):
    """The weights as a list of its own, with 1 for each letter in the place of None."""
    if weights is None:
        return [1] * len(letters)
    check_weights(letters, weights)
    return list(weights)


def _goes_down(letters, weights, row):
    """Whether the left side is greater than the right side."""
    return compare_words(letters, weights, row[1], row[2]) == 1


class Rules:
    """An alphabet, its weights, and rules that all go down."""

    def __init__(self, letters, rows, *, weights=None):
        check_letters(letters)
        _check_rows(letters, rows, False)
        self._letters = letters
        self._weights = _checked_weights(letters, weights)
        self._rows = [(name, left, right) for name, left, right in rows]
        self._ranks = {row[0]: rank for rank, row in enumerate(rows)}
        for row in rows:
            if not _goes_down(letters, self._weights, row):
                raise Rising(row[0])

    @property
    def letters(self):
        """The alphabet."""
        return self._letters

    @property
    def weights(self):
        """The weights, in the letter order."""
        return list(self._weights)

    @property
    def rows(self):
        """The rules, in the rule order."""
        return list(self._rows)

    @property
    def names(self):
        """The names, in the rule order."""
        return [row[0] for row in self._rows]

    def left_of(self, name):
        """The left side of the rule of this name."""
        return self._rows[self.rank_of(name)][1]

    def right_of(self, name):
        """The right side of the rule of this name."""
        return self._rows[self.rank_of(name)][2]

    def rank_of(self, name):
        """The position of the rule of this name."""
        if name not in self._ranks:
            raise Unknown(name)
        return self._ranks[name]

    def __len__(self):
        return len(self._rows)

    def __iter__(self):
        return iter(self._rows)

    def __contains__(self, name):
        return name in self._ranks

    def __eq__(self, other):
        return (isinstance(other, Rules) and self._letters == other._letters
                and self._weights == other._weights and self._rows == other._rows)


def with_rule(rules, row):
    """The rules with the row as the last one, or None if they cannot have it."""
    try:
        return Rules(rules.letters, rules.rows + [row], weights=rules.weights)
    except WayfillError:
        return None


def without_rule(rules, name):
    """The rules without the one of this name."""
    return Rules(rules.letters, [row for row in rules if row[0] != name], weights=rules.weights)


def free_names(mark, many, taken):
    """The first so many names of the mark and a number from 1 on that are not taken."""
    names = []
    number = 1
    while len(names) < many:
        name = f"{mark}{number}"
        if name not in taken:
            names.append(name)
        number += 1
    return names


def orient(letters, rows, *, weights=None):
    """The rules with the greater side of each row on the left, and the names of the rows that this turned."""
    check_letters(letters)
    _check_rows(letters, rows, True)
    given = _checked_weights(letters, weights)
    oriented = []
    turned = []
    for name, left, right in rows:
        if compare_words(letters, given, left, right) == 1:
            oriented.append((name, left, right))
        else:
            oriented.append((name, right, left))
            turned.append(name)
    return Rules(letters, oriented, weights=given), turned


def _all_weights(many, most):
    """All lists of so many weights from 1 to `most`, smaller ones first."""
    found = [[]]
    for _ in range(many):
        found = [[*weights, weight] for weights in found for weight in range(1, most + 1)]
    return found


def _power(base, exponent):
    """The base to the power of the exponent."""
    power = 1
    for _ in range(exponent):
        power = power * base
    return power


def find_weights(letters, rows, *, most=3):
    """The first weights under which all rows go down, or None."""
    check_letters(letters)
    _check_rows(letters, rows, False)
    if not 1 <= most <= MOST:
        raise BadNumber(most)
    if _power(most, len(letters)) > TRIES:
        raise TooMany()
    for weights in _all_weights(len(letters), most):
        if all([_goes_down(letters, weights, row) for row in rows]):
            return weights
    return None


def _rule_line(row):
    """The line of the text for a rule."""
    name, left, right = row
    return f"rule {name} {format_word(left)} -> {format_word(right)}"


def format_rules(rules):
    """The text of the rules."""
    weights = " ".join([str(weight) for weight in rules.weights])
    lines = [f"letters {rules.letters}", f"weights {weights}"]
    return "\n".join(lines + [_rule_line(row) for row in rules])


def _read_letters(line):
    """The alphabet in line 1."""
    pieces = line.split(" ")
    if len(pieces) != 2 or pieces[0] != "letters" or not is_alphabet(pieces[1]):
        raise BadText(1)
    return pieces[1]


def _read_weights(letters, line):
    """The weights in line 2."""
    pieces = line.split(" ")
    weights = [read_number(piece, 2) for piece in pieces[1:]]
    if pieces[0] != "weights" or None in weights or not are_weights(letters, weights):
        raise BadText(2)
    return weights


def _read_rule(letters, line, at):
    """The rule in the line with the number `at`."""
    pieces = line.split(" ")
    if len(pieces) != 5 or pieces[0] != "rule" or pieces[3] != "->":
        raise BadText(at)
    return pieces[1], read_word(letters, pieces[2], at), read_word(letters, pieces[4], at)


def parse_rules(text):
    """The rules with this text."""
    lines = text.split("\n")
    letters = _read_letters(lines[0])
    if len(lines) == 1:
        raise BadText(2)
    rules = Rules(letters, [], weights=_read_weights(letters, lines[1]))
    for at, line in enumerate(lines[2:], start=3):
        rules = with_rule(rules, _read_rule(letters, line, at))
        if rules is None:
            raise BadText(at)
    return rules
