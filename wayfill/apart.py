"""Letter counts, and papers that show whether two words are in one class."""

from wayfill.down import last_word, normal_way
from wayfill.errors import BadRow, WayfillError
from wayfill.overlaps import is_complete
from wayfill.ways import leads_to
from wayfill.whole import kernel_rows
from wayfill.words import check_word, is_word


def _count(rules, row, word):
    """The sum of the numbers of the letters of the word."""
    return sum([row[rules.letters.index(letter)] for letter in word])


def count_of(rules, row, word):
    """The count of the word."""
    if len(row) != len(rules.letters):
        raise BadRow(0)
    check_word(rules.letters, word)
    return _count(rules, row, word)


def is_kept(rules, row):
    """Whether both sides of each rule have the same count."""
    if len(row) != len(rules.letters):
        return False
    return all([_count(rules, row, left) == _count(rules, row, right) for name, left, right in rules])


def kept_rows(rules):
    """The kernel rows of what each rule takes away of each letter."""
    taken = [[left.count(letter) - right.count(letter) for letter in rules.letters] for name, left, right in rules]
    return kernel_rows(taken, width=len(rules.letters))


def compare_classes(rules, one, other):
    """The paper that shows whether two words are in one class, if there is one."""
    check_word(rules.letters, one)
    check_word(rules.letters, other)
    last = last_word(rules, one)
    other_last = last_word(rules, other)
    if last == other_last:
        return "same", normal_way(rules, one, other)
    for row in kept_rows(rules):
        if _count(rules, row, one) != _count(rules, row, other):
            return "count", row, _count(rules, row, one), _count(rules, row, other)
    if is_complete(rules):
        return "last", last, other_last
    return ("unknown",)


def _has_counts(rules, one, other, paper):
    """Whether the paper tells different counts of the words by a kept row."""
    kind, row, first, second = paper
    if first == second or not is_kept(rules, row):
        return False
    return _count(rules, row, one) == first and _count(rules, row, other) == second


def _has_last_words(rules, one, other, paper):
    """Whether the paper tells different last words, by complete rules."""
    kind, first, second = paper
    try:
        last = last_word(rules, one)
        other_last = last_word(rules, other)
        return first != second and last == first and other_last == second and is_complete(rules)
    except WayfillError:
        return False


def is_paper(rules, one, other, paper):
    """Whether the paper is right for the two words."""
    if not is_word(rules.letters, one) or not is_word(rules.letters, other):
        return False
    if paper[0] == "same":
        return leads_to(rules, paper[1], one, other)
    if paper[0] == "count":
        return _has_counts(rules, one, other, paper)
    if paper[0] == "last":
        return _has_last_words(rules, one, other, paper)
    return False
