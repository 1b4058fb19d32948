"""Overlaps of two steps on in one word."""

from wayfill.down import last_word
from wayfill.errors import BadStep, TooMany, Unknown
from wayfill.steps import after_step, shift_step, stands_in
from wayfill.words import OVERLAPS, check_word


def _overlap_at(rules, name, other, place):
    """The overlap of the rule `name` at 0 with the rule `other` at the place, or None."""
    if place == 0 and rules.rank_of(name) >= rules.rank_of(other):
        return None
    left = rules.left_of(name)
    other_left = rules.left_of(other)
    if not 0 <= place < len(left):
        return None
    shared = min(len(left) - place, len(other_left))
    if left[place:place + shared] != other_left[:shared]:
        return None
    return left + other_left[shared:], (1, name, 0), (1, other, place)


def list_overlaps(rules):
    """All overlaps of the rules, in order."""
    overlaps = []
    for name in rules.names:
        for other in rules.names:
            for place in range(len(rules.left_of(name))):
                overlap = _overlap_at(rules, name, other, place)
                if overlap is not None:
                    overlaps.append(overlap)
    if len(overlaps) > OVERLAPS:
        raise TooMany()
    return overlaps


def is_overlap(rules, overlap):
    """Whether the tuple is an overlap."""
    word, one, other = overlap
    if one[1] not in rules or other[1] not in rules:
        return False
    return _overlap_at(rules, one[1], other[1], other[2]) == overlap


def _check_step_on(rules, word, step, at):
    """Raise the errors of what is to be a step on that stands in the word."""
    if step[1] not in rules:
        raise Unknown(step[1])
    if step[0] != 1 or not stands_in(rules, word, step):
        raise BadStep(at)


def _range_end(rules, step):
    """The place behind the range of the step on."""
    return step[2] + len(rules.left_of(step[1]))


def _ordered_meeting(rules, word, one, other):
    """The meeting of two different steps on, of which `one` comes first."""
    begin = one[2]
    if other[2] >= _range_end(rules, one):
        return "apart", 0, None
    end = max(_range_end(rules, one), _range_end(rules, other))
    return "overlap", begin, (word[begin:end], shift_step(one, -begin), shift_step(other, -begin))


def meeting(rules, word, one, other):
    """How two steps on in the word meet: the kind, the place and the overlap."""
    check_word(rules.letters, word)
    _check_step_on(rules, word, one, 0)
    _check_step_on(rules, word, other, 1)
    if one == other:
        return "same", 0, None
    if (other[2], rules.rank_of(other[1])) < (one[2], rules.rank_of(one[1])):
        return _ordered_meeting(rules, word, other, one)
    return _ordered_meeting(rules, word, one, other)


def _is_open(rules, overlap):
    """Whether the results of the two steps have different last words."""
    word, one, other = overlap
    last = last_word(rules, after_step(rules, word, one))
    return last != last_word(rules, after_step(rules, word, other))


def open_overlaps(rules):
    """The open overlaps, in order."""
    return [overlap for overlap in list_overlaps(rules) if _is_open(rules, overlap)]


def first_open(rules):
    """The first open overlap, or None; no further ones are examined."""
    for overlap in list_overlaps(rules):
        if _is_open(rules, overlap):
            return overlap
    return None


def is_complete(rules):
    """Whether no overlap is open."""
    return first_open(rules) is None
