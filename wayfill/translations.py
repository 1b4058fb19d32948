"""Translations: for each rule of the source rules a way over the target rules between its sides."""

from wayfill.carrying import spread
from wayfill.down import normal_way
from wayfill.errors import BadLetters, BadTranslation, Unjoined
from wayfill.ways import check_way, leads_to


def _check_alphabets(source, target):
    """Raise the error of rules over different alphabets."""
    if source.letters != target.letters:
        raise BadLetters(target.letters)


def find_translation(source, target):
    """The translation by the normal ways over the target rules."""
    _check_alphabets(source, target)
    return [(name, normal_way(target, left, right)) for name, left, right in source]


def is_translation(source, target, rows):
    """Whether the rows have a way over the target rules for each source rule, in the rule order."""
    if source.letters != target.letters or [row[0] for row in rows] != source.names:
        return False
    return all([leads_to(target, row[1], left, right) for row, (name, left, right) in zip(rows, source)])


def translate_way(source, target, rows, way):
    """The way over the target rules for a way over the source rules."""
    _check_alphabets(source, target)
    if not is_translation(source, target, rows):
        raise BadTranslation()
    check_way(source, way)
    ways = {row[0]: row[1] for row in rows}
    steps = []
    for step in way[1]:
        steps.extend(spread(step, ways))
    translated = way[0], tuple(steps)
    check_way(target, translated)
    return translated


def both_translations(one, other):
    """The translations there and back, or None if one of them meets different last words."""
    try:
        there = find_translation(one, other)
        return there, find_translation(other, one)
    except Unjoined:
        return None
