"""Counting and ranking short ways, and filling and mending rows of steps with gaps."""

from wayfill.errors import BadEnds, BadNumber, TooLong, TooMany
from wayfill.steps import after_step, fits, fitting_steps
from wayfill.ways import check_way, way_words
from wayfill.words import WORDS, check_word

STEPS = 6


def _following(rules, word):
    """The steps that fit the word, in the step order, each with the word that it leaves."""
    steps = fitting_steps(rules, word, 1) + fitting_steps(rules, word, -1)
    return [(step, after_step(rules, word, step)) for step in steps]


def _followings(rules, begin, steps):
    """What follows each word that fewer than so many steps lead to."""
    after = {}
    visited = {begin: True}
    layer = [begin]
    for _ in range(steps):
        further = []
        for word in layer:
            after[word] = _following(rules, word)
            for step, result in after[word]:
                if result not in visited:
                    visited[result] = True
                    further.append(result)
            if len(visited) > WORDS:
                raise TooMany()
        layer = further
    return after


def _check_words(rules, begin, end):
    """Raise the errors of the words between which ways are looked for."""
    check_word(rules.letters, begin)
    check_word(rules.letters, end)


def _check_steps(steps):
    """Raise the error of a number of steps that is out of its range."""
    if not 0 <= steps <= STEPS:
        raise BadNumber(steps)


def _numbers(after, end, steps):
    """For 0, 1, .., `steps` steps, the number of ways of so many steps to the end from each word."""
    numbers = [{end: 1}]
    for _ in range(steps):
        shorter = numbers[-1]
        numbers.append({word: sum([shorter.get(result, 0) for step, result in after[word]]) for word in after})
    return numbers


def count_ways(rules, begin, end, *, steps):
    """The number of ways of exactly so many steps from the begin to the end."""
    _check_words(rules, begin, end)
    _check_steps(steps)
    return _numbers(_followings(rules, begin, steps), end, steps)[steps].get(begin, 0)


def _ranked_step(following, shorter, rank):
    """The step of the way with this rank, the word that it leaves, and the rank of the further way."""
    for step, result in following:
        many = shorter.get(result, 0)
        if rank < many:
            break
        rank -= many
    return step, result, rank


def way_at(rules, begin, end, rank, *, steps):
    """The way with this rank among those that `count_ways` counts."""
    _check_words(rules, begin, end)
    _check_steps(steps)
    after = _followings(rules, begin, steps)
    numbers = _numbers(after, end, steps)
    if not 0 <= rank < numbers[steps].get(begin, 0):
        raise BadNumber(rank)
    row = []
    word = begin
    for further in reversed(range(steps)):
        step, word, rank = _ranked_step(after[word], numbers[further], rank)
        row.append(step)
    return begin, tuple(row)


def way_rank(rules, way):
    """The rank of the way."""
    words = way_words(rules, way)
    steps = len(way[1])
    if steps > STEPS:
        raise TooLong()
    after = _followings(rules, way[0], steps)
    numbers = _numbers(after, words[-1], steps)
    rank = 0
    for at, own in enumerate(way[1]):
        for step, result in after[words[at]]:
            if step == own:
                break
            rank += numbers[steps - at - 1].get(result, 0)
    return rank


def _step_key(rules, step):
    """What the step order compares."""
    sign, name, place = step
    return -sign, place, rules.rank_of(name)


def compare_ways(rules, one, other):
    """-1, 0 or 1 as the first way comes before the second one, is equal to it or comes after it."""
    check_way(rules, one)
    check_way(rules, other)
    if one[0] != other[0] or len(one[1]) != len(other[1]):
        raise BadEnds()
    for step, further in zip(one[1], other[1]):
        if step != further:
            return -1 if _step_key(rules, step) < _step_key(rules, further) else 1
    return 0


def _check_row(row):
    """Raise the error of a gapped row that is too long."""
    if len(row) > STEPS:
        raise TooLong()


def _allowed(rules, word, entry):
    """The steps that the entry allows at the word, in the step order, each with the word that it leaves."""
    if entry is None:
        return _following(rules, word)
    return [(entry, after_step(rules, word, entry))] if fits(rules, word, entry) else []


def _results(after):
    """All words that are left."""
    found = {}
    for word in after:
        for step, result in after[word]:
            found[result] = True
        if len(found) > WORDS:
            raise TooMany()
    return list(found)


def _stages(rules, begin, row):
    """For each number up to that of the entries the words there, each with what the next entry allows."""
    stages = []
    words = [begin]
    for entry in row:
        stages.append({word: _allowed(rules, word, entry) for word in words})
        words = _results(stages[-1])
    stages.append({word: [] for word in words})
    return stages


def first_misfit(rules, begin, row):
    """The index of the first entry that leads nowhere, or None."""
    check_word(rules.letters, begin)
    _check_row(row)
    stages = _stages(rules, begin, row)
    for at in range(len(row)):
        if not stages[at + 1]:
            return at
    return None


def _leading(stages, end):
    """For each number, the words there from which the end is reached at the last number."""
    leading = [{end: True}]
    for after in reversed(stages[:-1]):
        later = leading[-1]
        leading.append({word: True for word in after if any([result in later for step, result in after[word]])})
    return list(reversed(leading))


def _first_leading(following, later):
    """The first step that leaves one of the later words, and this word."""
    return [(step, result) for step, result in following if result in later][0]


def fill_gaps(rules, begin, row, end):
    """The first way that fills the row and ends at the end, or None."""
    check_word(rules.letters, begin)
    _check_row(row)
    check_word(rules.letters, end)
    stages = _stages(rules, begin, row)
    leading = _leading(stages, end)
    if begin not in leading[0]:
        return None
    steps = []
    word = begin
    for at in range(len(row)):
        step, word = _first_leading(stages[at][word], leading[at + 1])
        steps.append(step)
    return begin, tuple(steps)


def _priced(following, entry, later):
    """The costs of going on by each step to one of the later words, with the step and the word."""
    found = []
    for step, result in following:
        if result in later:
            cost = 0 if entry is None or entry == step else 1
            found.append((later[result] + cost, step, result))
    return found


def _costs(after, row, end):
    """For each number of entries that are done, the least cost of going on to the end from each word."""
    costs = [{end: 0}]
    for entry in reversed(row):
        found = {}
        for word in after:
            priced = _priced(after[word], entry, costs[-1])
            if priced:
                found[word] = min([cost for cost, step, result in priced])
        costs.append(found)
    return list(reversed(costs))


def mend(rules, begin, row, end):
    """The least cost of a way with as many steps as the row has entries, and the first such way, or None."""
    check_word(rules.letters, begin)
    _check_row(row)
    check_word(rules.letters, end)
    after = _followings(rules, begin, len(row))
    costs = _costs(after, row, end)
    if begin not in costs[0]:
        return None
    steps = []
    word = begin
    for at, entry in enumerate(row):
        least = costs[at][word]
        priced = [(step, result) for cost, step, result in _priced(after[word], entry, costs[at + 1]) if cost == least]
        step, word = priced[0]
        steps.append(step)
    return costs[0][begin], (begin, tuple(steps))
