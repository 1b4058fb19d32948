"""Scripts: reading the statements of a text, and writing them in their canonical form."""

from wayfill.errors import BadText
from wayfill.rules import is_name
from wayfill.words import WORD, read_number

STATEMENTS = 60
BODIES = 4
EACH = 20
REPEAT = 40
PLACE = 2

TO_WORD = ("write", "goto")
STEPS = ("on", "back")
LOOPS = ("each", "until", "repeat")
KINDS = ("down", "turn", "shorten", "settle", "fill", "squares", "complete", "write", "goto", "on", "back", "show",
         "each", "until", "repeat")
SHOWN = ("word", "begin", "steps", "moves", "way", "rules")


class Reader:
    """The pieces of a text, the index of the present one, and the number of statements that were begun."""

    def __init__(self, pieces):
        self.pieces = pieces
        self.at = 0
        self.many = 0

    def facing(self):
        """The present piece; behind the last one it is empty, as no piece is."""
        return self.pieces[self.at] if self.at < len(self.pieces) else ""

    def take(self, is_right):
        """The present piece, which must be right; the next one becomes the present one."""
        if not is_right:
            raise BadText(self.at + 1)
        self.at += 1
        return self.pieces[self.at - 1]


def _is_word_piece(piece):
    """Whether the piece writes a word."""
    if not 1 <= len(piece) <= 1 + WORD or piece[0] != ":":
        return False
    return all(["a" <= character <= "z" for character in piece[1:]])


def _read_word(reader):
    """The word of the present piece."""
    return reader.take(_is_word_piece(reader.facing()))[1:]


def _read_place(reader):
    """The place of the present piece, or None for the first one."""
    piece = reader.facing()
    place = read_number(piece, PLACE)
    reader.take(piece == "first" or place is not None)
    return place


def _read_words(reader):
    """The words of the present piece and of those behind it."""
    words = [_read_word(reader)]
    while len(words) < EACH and reader.facing() != "{":
        words.append(_read_word(reader))
    return words


def _read_goal(reader):
    """The word of the present piece, or None for any last word."""
    if reader.facing() == "last":
        reader.take(True)
        return None
    return _read_word(reader)


def _read_times(reader):
    """The number of rounds of the present piece."""
    number = read_number(reader.facing(), PLACE)
    reader.take(number is not None and number <= REPEAT)
    return number


def _read_body(reader, depth):
    """The statements between the present brace and the one that closes the body."""
    reader.take(reader.facing() == "{")
    statements = []
    while reader.facing() != "}":
        statements.append(_read_statement(reader, depth))
    reader.take(True)
    return statements


def _read_loop(reader, kind, depth):
    """The loop of this kind in so many bodies, behind its first piece."""
    if kind == "each":
        head = _read_words(reader)
    elif kind == "until":
        head = _read_goal(reader)
    else:
        head = _read_times(reader)
    return kind, head, _read_body(reader, depth + 1)


def _read_statement(reader, depth):
    """The statement that begins with the present piece, in so many bodies."""
    kind = reader.facing()
    is_too_deep = kind in LOOPS and depth > BODIES
    reader.take(kind in KINDS and reader.many < STATEMENTS and not is_too_deep)
    reader.many += 1
    if kind in LOOPS:
        return _read_loop(reader, kind, depth)
    if kind in TO_WORD:
        return kind, _read_word(reader)
    if kind in STEPS:
        name = reader.take(is_name(reader.facing()))
        return kind, name, _read_place(reader)
    if kind == "show":
        return kind, reader.take(reader.facing() in SHOWN)
    return (kind,)


def parse_script(text):
    """The statements of the text."""
    reader = Reader([piece for piece in text.replace("\n", " ").split(" ") if piece])
    statements = []
    while reader.at < len(reader.pieces):
        statements.append(_read_statement(reader, 0))
    return statements


def _head(statement):
    """The pieces of a statement; those of a loop without its body."""
    kind = statement[0]
    if kind in TO_WORD:
        return [kind, f":{statement[1]}"]
    if kind in STEPS:
        return [kind, statement[1], "first" if statement[2] is None else str(statement[2])]
    if kind == "each":
        return [kind] + [f":{word}" for word in statement[1]]
    if kind == "until":
        return [kind, "last" if statement[1] is None else f":{statement[1]}"]
    return [str(part) for part in statement[:2]]


def _lines(statements, before):
    """The lines of the statements, each with this text before it."""
    lines = []
    for statement in statements:
        line = before + " ".join(_head(statement))
        if statement[0] in LOOPS:
            lines.append(line + " {")
            lines.extend(_lines(statement[2], before + "  "))
            lines.append(before + "}")
        else:
            lines.append(line)
    return lines


def format_script(statements):
    """The canonical text of the statements."""
    return "\n".join(_lines(statements, ""))
