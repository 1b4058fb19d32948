"""Completion: rules are added until no overlap is open, and needless ones dropped; logs of this."""

from wayfill.down import normal_way
from wayfill.errors import BadLog, BadNumber, TooLong, TooMany
from wayfill.overlaps import first_open
from wayfill.rules import free_names, with_rule, without_rule
from wayfill.squares import leg_down
from wayfill.steps import turn_steps
from wayfill.ways import leads_to
from wayfill.words import RULES, SIDE, WAY, compare_words

ADDED = 8
ENTRIES = 24


def _joining_way(rules, overlap):
    """The way between the last words of an open overlap from the greater to the lesser one, and the lesser one.

    The way may be too long.
    """
    word, one, other = overlap
    steps, last = leg_down(rules, word, one)
    other_steps, other_last = leg_down(rules, word, other)
    joined = turn_steps(steps) + other_steps
    if compare_words(rules.letters, rules.weights, last, other_last) == 1:
        return (last, joined), other_last
    return (other_last, turn_steps(joined)), last


def _added_entry(rules, overlap, name):
    """The entry of the rule that closes the overlap."""
    way, right = _joining_way(rules, overlap)
    if max(len(way[0]), len(right)) > SIDE or len(way[1]) > WAY:
        raise TooLong()
    return "add", name, way[0], right, way


def _is_covered(rules, name):
    """Whether the left side of another rule stands in that of this one."""
    left = rules.left_of(name)
    return any([row[1] in left for row in rules if row[0] != name])


def _drop_covered(rules, log):
    """The rules without those that are covered, from the last to the first; their entries are put in the log."""
    active = rules
    for name in reversed(rules.names):
        if _is_covered(active, name):
            left, right = active.left_of(name), active.right_of(name)
            active = without_rule(active, name)
            log.append(("drop", name, left, right, normal_way(active, left, right)))
    return active


def complete(rules, *, most=6):
    """The final rules of the completion, and its log."""
    if not 0 <= most <= ADDED:
        raise BadNumber(most)
    active = rules
    names = free_names("N", most, rules.names)
    log = []
    overlap = first_open(active)
    while overlap is not None:
        if len(log) == most or len(active) == RULES:
            raise TooMany()
        entry = _added_entry(active, overlap, names[len(log)])
        log.append(entry)
        active = with_rule(active, entry[1:4])
        overlap = first_open(active)
    return _drop_covered(active, log), log


def _after_add(active, taken, entry):
    """The active rules after the entry, or None if it is wrong."""
    kind, name, left, right, way = entry
    if name in taken or not leads_to(active, way, left, right):
        return None
    return with_rule(active, (name, left, right))


def _after_drop(active, entry):
    """The active rules after the entry, or None if it is wrong."""
    kind, name, left, right, way = entry
    if (name, left, right) not in active.rows:
        return None
    others = without_rule(active, name)
    return others if leads_to(others, way, left, right) else None


def _after_entry(active, taken, entry):
    """The active rules after the entry, or None if it is wrong; `taken` has the names that no rule may get."""
    if entry[0] == "add":
        return _after_add(active, taken, entry)
    if entry[0] == "drop":
        return _after_drop(active, entry)
    return None


def _judged(rules, log):
    """The index of the first wrong entry, or None, and the rules that are active before it."""
    active = rules
    taken = {name: True for name in rules.names}
    for at, entry in enumerate(log):
        changed = None if at >= ENTRIES else _after_entry(active, taken, entry)
        if changed is None:
            return at, active
        taken[entry[1]] = True
        active = changed
    return None, active


def log_fault(rules, log):
    """The index of the first wrong entry of the log, or None."""
    return _judged(rules, log)[0]


def is_log(rules, log):
    """Whether no entry of the log is wrong."""
    return log_fault(rules, log) is None


def log_rules(rules, log):
    """The final rules of the log."""
    fault, final = _judged(rules, log)
    if fault is not None:
        raise BadLog(fault)
    return final
