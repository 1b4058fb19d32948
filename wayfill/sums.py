"""Sums of last words with whole numbers, and their arithmetic."""

from wayfill.down import last_word
from wayfill.errors import BadSum, TooMany
from wayfill.words import check_word, sort_words

GIVEN = 40
TERMS = 400


def _put_together(rules, pairs):
    """The terms for pairs of a number and a last word."""
    numbers = {}
    for number, word in pairs:
        numbers[word] = numbers.get(word, 0) + number
    words = [word for word in numbers if numbers[word] != 0]
    return [(numbers[word], word) for word in sort_words(rules.letters, rules.weights, words)]


def _with_terms(rules, terms):
    """The sum that has these terms, which need no examining."""
    made = Sum(rules)
    made._terms = terms
    return made


def _check_rules(one, other):
    """Raise the error of two sums over rules that are not equal."""
    if one.rules != other.rules:
        raise BadSum()


def _joined(one, other, sign):
    """The sum of the one sum and of the other one taken with the sign."""
    _check_rules(one, other)
    terms = _put_together(one.rules, one.terms + [(sign * number, word) for number, word in other])
    if len(terms) > TERMS:
        raise TooMany()
    return _with_terms(one.rules, terms)


class Sum:
    """Numbers that are not 0 with different last words, in ascending order of the words."""

    def __init__(self, rules, terms=()):
        if len(terms) > GIVEN:
            raise TooMany()
        for number, word in terms:
            check_word(rules.letters, word)
        self._rules = rules
        self._terms = _put_together(rules, [(number, last_word(rules, word)) for number, word in terms])

    @property
    def rules(self):
        """The rules that the sum is over."""
        return self._rules

    @property
    def terms(self):
        """The terms, in order."""
        return list(self._terms)

    def number_of(self, word):
        """The number of the last word of the word, or 0."""
        last = last_word(self._rules, word)
        return sum([number for number, held in self._terms if held == last])

    def times(self, number):
        """The sum with each number multiplied."""
        return _with_terms(self._rules, [(many * number, word) for many, word in self._terms if number != 0])

    def __add__(self, other):
        return _joined(self, other, 1)

    def __sub__(self, other):
        return _joined(self, other, -1)

    def __neg__(self):
        return _with_terms(self._rules, [(-number, word) for number, word in self._terms])

    def __mul__(self, other):
        _check_rules(self, other)
        if len(self) * len(other) > TERMS:
            raise TooMany()
        pairs = []
        for number, word in self._terms:
            for many, further in other:
                pairs.append((number * many, last_word(self._rules, word + further)))
        return _with_terms(self._rules, _put_together(self._rules, pairs))

    def __eq__(self, other):
        return isinstance(other, Sum) and self._rules == other._rules and self._terms == other._terms

    def __len__(self):
        return len(self._terms)

    def __iter__(self):
        return iter(self._terms)

    def __bool__(self):
        return bool(self._terms)

    def __contains__(self, word):
        return any([held == word for number, held in self._terms])
