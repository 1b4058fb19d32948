"""Steps: one rule applied at one place of a word, forwards or backwards."""

from wayfill.errors import BadStep, TooLong, Unknown
from wayfill.words import WORD, check_word, is_word, places_of, stands_at


def step_input(rules, step):
    """The part that the step replaces."""
    sign, name, place = step
    return rules.left_of(name) if sign == 1 else rules.right_of(name)


def step_output(rules, step):
    """The text that the step puts in."""
    sign, name, place = step
    return rules.right_of(name) if sign == 1 else rules.left_of(name)


def stands_in(rules, word, step):
    """Whether the step stands in the word."""
    sign, name, place = step
    if sign not in (1, -1) or name not in rules:
        return False
    return stands_at(step_input(rules, step), word, place)


def after_step(rules, word, step):
    """The word after a step that stands in the word; it may be too long."""
    place = step[2]
    behind = place + len(step_input(rules, step))
    return word[:place] + step_output(rules, step) + word[behind:]


def fits(rules, word, step):
    """Whether the step fits the word."""
    if not is_word(rules.letters, word) or not stands_in(rules, word, step):
        return False
    return len(after_step(rules, word, step)) <= WORD


def checked_step(rules, word, step, at):
    """The word after the step, which has the index `at` in its row."""
    if step[1] not in rules:
        raise Unknown(step[1])
    if not stands_in(rules, word, step):
        raise BadStep(at)
    result = after_step(rules, word, step)
    if len(result) > WORD:
        raise TooLong()
    return result


def do_step(rules, word, step):
    """The word after the step."""
    check_word(rules.letters, word)
    return checked_step(rules, word, step, 0)


def turn_step(step):
    """The step turned about."""
    sign, name, place = step
    return -sign, name, place


def shift_step(step, by):
    """The step with its place moved."""
    sign, name, place = step
    return sign, name, place + by


def turn_steps(steps):
    """The steps in the opposite order, each turned about."""
    return tuple([turn_step(step) for step in reversed(steps)])


def shift_steps(steps, by):
    """The steps with their places moved."""
    return tuple([shift_step(step, by) for step in steps])


def fitting_steps(rules, word, sign):
    """The steps of this sign that fit the word, in the step order."""
    found = []
    for rank, name in enumerate(rules.names):
        part = step_input(rules, (sign, name, 0))
        put = step_output(rules, (sign, name, 0))
        if len(word) - len(part) + len(put) <= WORD:
            found.extend([(place, rank, name) for place in places_of(part, word)])
    return [(sign, name, place) for place, rank, name in sorted(found)]


def steps_on(rules, word):
    """The steps on that fit the word, in the step order."""
    check_word(rules.letters, word)
    return fitting_steps(rules, word, 1)


def steps_back(rules, word):
    """The steps back that fit the word, in the step order."""
    check_word(rules.letters, word)
    return fitting_steps(rules, word, -1)


def steps_at(rules, word):
    """The steps that fit the word, in the step order."""
    return steps_on(rules, word) + steps_back(rules, word)
