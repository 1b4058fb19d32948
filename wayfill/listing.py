"""Last words, listed and counted, and class tables."""

from wayfill.down import last_word
from wayfill.errors import BadNumber, BadTable, Open, TooMany
from wayfill.overlaps import first_open
from wayfill.words import WORD, WORDS, check_word, is_word, sort_words

CLASSES = 24


def _ends_with_left(lefts, text):
    """Whether the text ends with one of the left sides."""
    return any([text.endswith(left) for left in lefts])


def _words_of_weight(rules, lefts, known, weight):
    """The last words of this weight, in order; `known` has those of each smaller weight."""
    words = []
    for letter, less in zip(rules.letters, rules.weights):
        for begin in known.get(weight - less, []):
            # The begin is last, so a left side can only stand at the end.
            if len(begin) < WORD and not _ends_with_left(lefts, begin + letter):
                words.append(begin + letter)
    return sort_words(rules.letters, rules.weights, words)


def list_last(rules, *, many):
    """The first `many` last words, or all if there are fewer."""
    if not 0 <= many <= WORDS:
        raise BadNumber(many)
    lefts = [row[1] for row in rules]
    known = {0: [""]}
    found = [""]
    for weight in range(1, WORD * max(rules.weights) + 1):
        if len(found) >= many:
            break
        known[weight] = _words_of_weight(rules, lefts, known, weight)
        found.extend(known[weight])
    return found[:many]


def _longest_start(starts, text):
    """The longest end of the text that is one of the starts."""
    for at in range(len(text)):
        if text[at:] in starts:
            return text[at:]
    return ""


def _starts_after(rules):
    """For each start of a left side, those that a last word may end with when one more letter follows.

    A last word is known by the longest start of a left side, shorter than
    the side, that it ends with: this tells which letters may follow.
    """
    lefts = [row[1] for row in rules]
    starts = {left[:size]: True for left in lefts for size in range(1, len(left))}
    starts[""] = True
    after = {}
    for start in starts:
        texts = [start + letter for letter in rules.letters]
        after[start] = [_longest_start(starts, text) for text in texts if not _ends_with_left(lefts, text)]
    return after


def _counts(after, most):
    """The numbers of last words with 0, 1, .., `most` letters."""
    many = {"": 1}
    counts = [1]
    for _ in range(most):
        longer = {}
        for start in many:
            for further in after[start]:
                longer[further] = longer.get(further, 0) + many[start]
        many = longer
        counts.append(sum(list(many.values())))
    return counts


def count_last(rules, *, most):
    """The numbers of last words with 0, 1, .., `most` letters."""
    if not 0 <= most <= WORD:
        raise BadNumber(most)
    return _counts(_starts_after(rules), most)


def class_number(rules):
    """The number of all last words, or None if there are infinitely many."""
    after = _starts_after(rules)
    counts = _counts(after, len(after))
    # A last word with as many letters as there are starts meets one of them twice, and can do so again and again.
    return None if counts[-1] > 0 else sum(counts)


def class_table(rules):
    """The last words, and for each of them the indexes of the last words behind each letter."""
    overlap = first_open(rules)
    if overlap is not None:
        word, one, other = overlap
        raise Open(word, one, other)
    many = class_number(rules)
    if many is None or many > CLASSES:
        raise TooMany()
    # Each part of a last word is last, so none of so few last words is too long to be listed.
    words = list_last(rules, many=many)
    ranks = {word: rank for rank, word in enumerate(words)}
    rows = [[ranks[last_word(rules, word + letter)] for letter in rules.letters] for word in words]
    return words, rows


def _are_table_words(rules, words):
    """Whether a class table may have these words."""
    if not 1 <= len(words) <= CLASSES or words[0] != "":
        return False
    return len(set(words)) == len(words) and all([is_word(rules.letters, word) for word in words])


def _are_table_rows(rules, rows, many):
    """Whether a class table with so many words may have these rows."""
    if len(rows) != many or not all([len(row) == len(rules.letters) for row in rows]):
        return False
    return all([0 <= number < many for row in rows for number in row])


def _walk(rules, rows, at, word):
    """The index that walking from the index by the word ends at."""
    for letter in word:
        at = rows[at][rules.letters.index(letter)]
    return at


def _same_walk(rules, rows, one, other):
    """Whether walking by the one word and by the other ends at the same index, from each index."""
    return all([_walk(rules, rows, at, one) == _walk(rules, rows, at, other) for at in range(len(rows))])


def is_class_table(rules, table):
    """Whether the tuple is a class table for the rules."""
    words, rows = table
    if not _are_table_words(rules, words) or not _are_table_rows(rules, rows, len(words)):
        return False
    if not all([_walk(rules, rows, 0, word) == at for at, word in enumerate(words)]):
        return False
    return all([_same_walk(rules, rows, left, right) for name, left, right in rules])


def _check_table(rules, table):
    """Raise the error of a tuple that is not a class table."""
    if not is_class_table(rules, table):
        raise BadTable()


def walk_table(rules, table, start, word):
    """The index that walking from the index `start` by the word ends at."""
    _check_table(rules, table)
    words, rows = table
    if not 0 <= start < len(words):
        raise BadNumber(start)
    check_word(rules.letters, word)
    return _walk(rules, rows, start, word)


def multiply_table(rules, table):
    """For each two words of the table the index that walking by the second one from the first one ends at."""
    _check_table(rules, table)
    words, rows = table
    return [[_walk(rules, rows, at, word) for word in words] for at in range(len(words))]
