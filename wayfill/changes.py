"""Changes of rules that keep the classes of words, and carrying words, ways and squares along."""

from wayfill.carrying import replaced_way
from wayfill.errors import BadChange, TooLong, TooMany, WayfillError
from wayfill.rules import Rules, free_names, orient, with_rule, without_rule
from wayfill.squares import check_squares
from wayfill.ways import check_way, leads_to, way_words
from wayfill.words import SQUARES, WORD, check_word, is_word

CHANGES = 12


def _with_letter(rules, change):
    """The rules with a new letter, or None if this cannot be done."""
    kind, letter, weight, word, name = change
    if len(letter) != 1 or not is_word(rules.letters, word):
        return None
    rows = rules.rows + [(name, letter, word)]
    try:
        # The old rules go down as before, so the new one alone may be turned.
        return orient(rules.letters + letter, rows, weights=rules.weights + [weight])[0]
    except WayfillError:
        return None


def _definition(rules, letter):
    """The name of the defining rule of the letter and the word of the letter, or None if there are none."""
    rows = [row for row in rules if letter in row[1] + row[2]]
    if len(rows) != 1:
        return None
    name, left, right = rows[0]
    if left == letter and letter not in right:
        return name, right
    if right == letter and letter not in left:
        return name, left
    return None


def _without_letter(rules, change):
    """The rules without a letter, or None if this cannot be done."""
    kind, letter = change
    if len(letter) != 1 or letter not in rules.letters or len(rules.letters) < 2:
        return None
    definition = _definition(rules, letter)
    if definition is None:
        return None
    weights = [weight for other, weight in zip(rules.letters, rules.weights) if other != letter]
    rows = [row for row in rules if row[0] != definition[0]]
    return Rules(rules.letters.replace(letter, ""), rows, weights=weights)


def _with_new_rule(rules, change):
    """The rules with a new rule, or None if this cannot be done."""
    kind, name, left, right, way = change
    return with_rule(rules, (name, left, right)) if leads_to(rules, way, left, right) else None


def _without_old_rule(rules, change):
    """The rules without a rule, or None if this cannot be done."""
    kind, name, way = change
    if name not in rules:
        return None
    others = without_rule(rules, name)
    return others if leads_to(others, way, rules.left_of(name), rules.right_of(name)) else None


def _changed(rules, change):
    """The changed rules, or None if the change cannot be done."""
    if change[0] == "add letter":
        return _with_letter(rules, change)
    if change[0] == "drop letter":
        return _without_letter(rules, change)
    if change[0] == "add rule":
        return _with_new_rule(rules, change)
    if change[0] == "drop rule":
        return _without_old_rule(rules, change)
    return None


def _checked(rules, change, at):
    """The changed rules; the change has the index `at` in its list."""
    changed = _changed(rules, change)
    if changed is None:
        raise BadChange(at)
    return changed


def can_change(rules, change):
    """Whether the change can be done."""
    return _changed(rules, change) is not None


def change_rules(rules, change):
    """The changed rules."""
    return _checked(rules, change, 0)


def opposite(rules, change):
    """The change of the changed rules that restores the classes."""
    _checked(rules, change, 0)
    if change[0] == "add letter":
        return "drop letter", change[1]
    if change[0] == "drop letter":
        name, word = _definition(rules, change[1])
        return "add letter", change[1], rules.weights[rules.letters.index(change[1])], word, name
    if change[0] == "add rule":
        return "drop rule", change[1], change[4]
    kind, name, way = change
    return "add rule", name, rules.left_of(name), rules.right_of(name), way


def _image(rules, way, letter, word, defining):
    """The image of a way over the rules, with the word in the place of the letter."""
    words = way_words(rules, way)
    if max([len(visited.replace(letter, word)) for visited in words]) > WORD:
        raise TooLong()
    steps = []
    for visited, (sign, name, place) in zip(words, way[1]):
        if name != defining:
            steps.append((sign, name, len(visited[:place].replace(letter, word))))
    return words[0].replace(letter, word), tuple(steps)


def _carried(rules, changed, change, way):
    """The way over the changed rules for a way over the rules that was examined."""
    if change[0] == "drop letter":
        name, word = _definition(rules, change[1])
        return _image(rules, way, change[1], word, name)
    if change[0] == "drop rule":
        return replaced_way(changed, way, {change[1]: change[2]})
    return way


def _brought(rules, changed, change, way):
    """The way over the rules for a way over the changed rules that was examined."""
    if change[0] == "add letter":
        kind, letter, weight, word, name = change
        return _image(changed, way, letter, word, name)
    if change[0] == "add rule":
        return replaced_way(rules, way, {change[1]: change[4]})
    return way


def carry_word(rules, change, word):
    """The word over the changed rules for a word over the rules."""
    changed = _checked(rules, change, 0)
    check_word(rules.letters, word)
    return _carried(rules, changed, change, (word, ()))[0]


def carry_way(rules, change, way):
    """The way over the changed rules for a way over the rules."""
    changed = _checked(rules, change, 0)
    check_way(rules, way)
    return _carried(rules, changed, change, way)


def bring_word(rules, change, word):
    """The word over the rules for a word over the changed rules."""
    changed = _checked(rules, change, 0)
    check_word(changed.letters, word)
    return _brought(rules, changed, change, (word, ()))[0]


def bring_way(rules, change, way):
    """The way over the rules for a way over the changed rules."""
    changed = _checked(rules, change, 0)
    check_way(changed, way)
    return _brought(rules, changed, change, way)


def _rule_square(change, squares):
    """The square of a new rule: its single step, and the way of the change."""
    kind, name, left, right, way = change
    free = free_names("A", 1, [square[0] for square in squares])[0]
    return free, (left, ((1, name, 0),)), way


def change_squares(rules, change, squares):
    """The squares over the changed rules for squares over the rules."""
    changed = _checked(rules, change, 0)
    check_squares(rules, squares)
    added = [_rule_square(change, squares)] if change[0] == "add rule" else []
    if len(squares) + len(added) > SQUARES:
        raise TooMany()
    carried = []
    for name, one, other in squares:
        carried.append((name, _carried(rules, changed, change, one), _carried(rules, changed, change, other)))
    return carried + added


def bring_squares(rules, change, squares):
    """The squares over the rules for squares over the changed rules."""
    changed = _checked(rules, change, 0)
    check_squares(changed, squares)
    brought = []
    for name, one, other in squares:
        brought.append((name, _brought(rules, changed, change, one), _brought(rules, changed, change, other)))
    return brought


def _stages(rules, changes):
    """The rules before all changes, and after each of them."""
    if len(changes) > CHANGES:
        raise TooMany()
    stages = [rules]
    for at, change in enumerate(changes):
        stages.append(_checked(stages[at], change, at))
    return stages


def change_all(rules, changes):
    """The rules after all changes."""
    return _stages(rules, changes)[-1]


def carry_along(rules, changes, way):
    """The way carried through all changes in order."""
    stages = _stages(rules, changes)
    check_way(rules, way)
    for at, change in enumerate(changes):
        way = _carried(stages[at], stages[at + 1], change, way)
    return way


def bring_along(rules, changes, way):
    """The way brought back through all changes, from the last to the first."""
    stages = _stages(rules, changes)
    check_way(stages[-1], way)
    for at in reversed(range(len(changes))):
        way = _brought(stages[at], stages[at + 1], changes[at], way)
    return way
