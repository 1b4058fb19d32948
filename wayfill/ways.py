"""Ways: a word and a row of steps from it, and what is made of ways."""

from wayfill.errors import BadEnds, BadNumber, BadText, TooLong, WayfillError
from wayfill.steps import after_step, checked_step, fits, shift_steps, turn_steps
from wayfill.words import WAY, WORD, check_word, format_word, read_number, read_word


def way_words(rules, way):
    """The visited words; raises the errors of the way."""
    begin, steps = way
    check_word(rules.letters, begin)
    if len(steps) > WAY:
        raise TooLong()
    words = [begin]
    for at, step in enumerate(steps):
        words.append(checked_step(rules, words[at], step, at))
    return words


def check_way(rules, way):
    """Raise the errors of what is to be a way."""
    way_words(rules, way)


def is_way(rules, way):
    """Whether it is a way."""
    try:
        check_way(rules, way)
    except WayfillError:
        return False
    return True


def way_end(rules, way):
    """The end of the way."""
    return way_words(rules, way)[-1]


def is_on(rules, way):
    """Whether all steps of the way are steps on."""
    check_way(rules, way)
    return all([step[0] == 1 for step in way[1]])


def join_ways(rules, one, other):
    """The joined way of two ways."""
    end = way_end(rules, one)
    check_way(rules, other)
    if other[0] != end:
        raise BadEnds()
    if len(one[1]) + len(other[1]) > WAY:
        raise TooLong()
    return one[0], one[1] + other[1]


def turn_way(rules, way):
    """The way turned about."""
    return way_end(rules, way), turn_steps(way[1])


def set_way(rules, before, way, after):
    """The way set between two words."""
    check_word(rules.letters, before)
    words = way_words(rules, way)
    check_word(rules.letters, after)
    around = len(before) + len(after)
    if max([len(word) for word in words]) + around > WORD:
        raise TooLong()
    return before + way[0] + after, shift_steps(way[1], len(before))


def cut_way(rules, way, first, last):
    """The part of the way from the visited word `first` to the visited word `last`."""
    words = way_words(rules, way)
    many = len(way[1])
    if not 0 <= first <= many:
        raise BadNumber(first)
    if not first <= last <= many:
        raise BadNumber(last)
    return words[first], way[1][first:last]


def leads_to(rules, way, one, other):
    """Whether it is a way from the word `one` to the word `other`."""
    return is_way(rules, way) and way[0] == one and way_end(rules, way) == other


def _format_step(step):
    """The piece of the text for a step."""
    sign, name, place = step
    mark = "+" if sign == 1 else "-"
    return f"{name}{mark}{place}"


def format_way(way):
    """The text of the way."""
    begin, steps = way
    return " ".join([format_word(begin)] + [_format_step(step) for step in steps])


def _read_step(piece):
    """The step that the piece writes, or None; its name may be any text."""
    mark = "+" if "+" in piece else "-"
    name, found, digits = piece.partition(mark)
    place = read_number(digits, 3)
    if place is None:
        return None
    return (1 if mark == "+" else -1), name, place


def read_steps(rules, word, pieces, number):
    """The steps that the pieces write, from this word on; the first piece has this number in its text."""
    steps = []
    for at, piece in enumerate(pieces):
        step = _read_step(piece)
        if at == WAY or step is None or not fits(rules, word, step):
            raise BadText(number + at)
        steps.append(step)
        word = after_step(rules, word, step)
    return tuple(steps)


def parse_way(rules, text):
    """The way with this text."""
    pieces = text.split(" ")
    begin = read_word(rules.letters, pieces[0], 1)
    return begin, read_steps(rules, begin, pieces[1:], 2)
