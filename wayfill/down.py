"""Going down from words, and the words below a word."""

from wayfill.errors import TooLong, TooMany, Unjoined
from wayfill.steps import after_step, fitting_steps, turn_steps
from wayfill.words import WAY, WORD, WORDS, check_word, sort_words


def _first_step(rules, word):
    """The first step of a word that was examined, or None."""
    found = []
    for rank, name in enumerate(rules.names):
        place = word.find(rules.left_of(name))
        if place >= 0:
            found.append((place, rank, name))
    if not found:
        return None
    place, rank, name = min(found)
    return 1, name, place


def go_down(rules, word):
    """The steps of the down way of a word that was examined, and its last word."""
    steps = []
    step = _first_step(rules, word)
    while step is not None:
        word = after_step(rules, word, step)
        steps.append(step)
        if len(word) > WORD or len(steps) > WAY:
            raise TooLong()
        step = _first_step(rules, word)
    return tuple(steps), word


def first_step(rules, word):
    """The first step of the word, or None."""
    check_word(rules.letters, word)
    return _first_step(rules, word)


def is_last(rules, word):
    """Whether no left side stands in the word."""
    return first_step(rules, word) is None


def down_way(rules, word):
    """The down way of the word."""
    check_word(rules.letters, word)
    steps, last = go_down(rules, word)
    return word, steps


def last_word(rules, word):
    """The last word, which the down way of the word reaches."""
    check_word(rules.letters, word)
    steps, last = go_down(rules, word)
    return last


def same_last(rules, one, other):
    """Whether the last words of both words are equal."""
    check_word(rules.letters, one)
    check_word(rules.letters, other)
    return last_word(rules, one) == last_word(rules, other)


def normal_way(rules, one, other):
    """The normal way from the first word to the second one."""
    check_word(rules.letters, one)
    check_word(rules.letters, other)
    down, last = go_down(rules, one)
    other_down, other_last = go_down(rules, other)
    if last != other_last:
        raise Unjoined(last, other_last)
    if len(down) + len(other_down) > WAY:
        raise TooLong()
    return one, down + turn_steps(other_down)


def _results_on(rules, word):
    """The word after each step on that fits the word."""
    return [after_step(rules, word, step) for step in fitting_steps(rules, word, 1)]


def _descents(rules, word):
    """For each lower word, in ascending order, the words after its fitting steps on."""
    check_word(rules.letters, word)
    results = {}
    waiting = [word]
    while waiting:
        lower = waiting.pop()
        if lower not in results:
            results[lower] = _results_on(rules, lower)
            waiting.extend(results[lower])
        if len(results) > WORDS:
            raise TooMany()
    ascending = sort_words(rules.letters, rules.weights, list(results))
    return {lower: results[lower] for lower in ascending}


def lower_words(rules, word):
    """The lower words of the word, in ascending order."""
    return list(_descents(rules, word))


def count_down(rules, word):
    """The number of down rows of the word."""
    descents = _descents(rules, word)
    many = {}
    # Steps on lead to lesser words, and these have their numbers already.
    for lower in descents:
        if _first_step(rules, lower) is None:
            many[lower] = 1
        else:
            many[lower] = sum([many[result] for result in descents[lower]])
    return many[word]


def longest_down(rules, word):
    """The greatest number of steps in a row of fitting steps on from the word."""
    descents = _descents(rules, word)
    longest = {}
    for lower in descents:
        longest[lower] = max([1 + longest[result] for result in descents[lower]], default=0)
    return longest[word]


def all_meet(rules, word):
    """Whether exactly one of the lower words is last."""
    last = [lower for lower in lower_words(rules, word) if _first_step(rules, lower) is None]
    return len(last) == 1
