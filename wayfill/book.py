"""Books: they keep rules, squares, ways and rows of moves that are filed one after another."""

from wayfill.errors import BadEntry, NothingToUndo, Unknown
from wayfill.moves import leads, turn_moves
from wayfill.rules import Rules, is_name, with_rule, without_rule
from wayfill.squares import is_square
from wayfill.ways import is_way
from wayfill.words import SQUARES

ROWS = 60


def _without_list(row):
    """The row without a list within it."""
    if row[0] == "moves":
        kind, name, start, moves, goal = row
        return kind, name, start, tuple(moves), goal
    return row


def _with_list(row):
    """The kept row with a new list within it."""
    if row[0] == "moves":
        kind, name, start, moves, goal = row
        return kind, name, start, list(moves), goal
    return row


def _used(row):
    """The names that a kept row uses."""
    if row[0] == "square":
        return [step[1] for step in row[2][1] + row[3][1]]
    if row[0] == "way":
        return [step[1] for step in row[2][1]]
    if row[0] == "moves":
        kind, name, start, moves, goal = row
        grown = [move[2][1] for move in moves if move[0] == "grow"]
        swapped = [move[2] for move in moves if move[0] == "swap"]
        return [start, goal] + grown + swapped
    return []


def _is_kind(book, kind, name):
    """Whether something present of this kind has the name."""
    return name in book and book._present[name][0] == kind


def _can_lead(book, row):
    """Whether the row of moves leads from the one present way to the other."""
    kind, name, start, moves, goal = row
    if not _is_kind(book, "way", start) or not _is_kind(book, "way", goal):
        return False
    return leads(book.rules, book.squares, book.way_of(start), moves, book.way_of(goal))


def _can_drop(book, name):
    """Whether something present has the name, and nothing present uses it."""
    return name in book and not any([name in _used(row) for row in book._present.values()])


def _can_file(book, row):
    """Whether the book accepts the row."""
    kind, name = row[:2]
    if len(book) >= ROWS:
        return False
    if kind == "drop":
        return _can_drop(book, name)
    if not is_name(name) or name in book:
        return False
    if kind == "rule":
        return with_rule(book.rules, row[1:]) is not None
    if kind == "square":
        return len(book.squares) < SQUARES and is_square(book.rules, row[1:])
    if kind == "way":
        return is_way(book.rules, row[2])
    return kind == "moves" and _can_lead(book, row)


def _edges(book, name):
    """The present rows of moves at the way of this name, each with the way at its other end and whether it turns."""
    edges = []
    for row in book._present.values():
        if row[0] == "moves":
            if row[2] == name:
                edges.append((row, row[4], False))
            if row[4] == name:
                edges.append((row, row[2], True))
    return edges


def _edge_moves(book, row, turns):
    """The moves of a kept row of moves, turned about if so wanted."""
    kind, name, start, moves, goal = row
    if turns:
        return turn_moves(book.rules, book.squares, book.way_of(start), list(moves))
    return list(moves)


def _route(book, start, goal):
    """The fewest rows of moves that lead from the start to the goal, each with whether it turns, or None."""
    routes = {start: []}
    waiting = [start]
    while waiting and goal not in routes:
        further = []
        for name in waiting:
            for row, other, turns in _edges(book, name):
                if other not in routes:
                    routes[other] = routes[name] + [(row, turns)]
                    further.append(other)
        waiting = further
    return routes.get(goal)


class Book:
    """Rows that were filed, and what they have made present."""

    def __init__(self, letters, *, weights=None):
        self._rules = Rules(letters, [], weights=weights)
        self._rows = []
        self._present = {}
        # Iterating tells these, so that a list in one of them may be changed without any effect.
        self._told = []

    @property
    def letters(self):
        """The alphabet."""
        return self._rules.letters

    @property
    def weights(self):
        """The weights, in the letter order."""
        return self._rules.weights

    @property
    def rows(self):
        """All filed rows."""
        return [_with_list(row) for row in self._rows]

    @property
    def rules(self):
        """The rules that are present."""
        return self._rules

    @property
    def squares(self):
        """The squares that are present."""
        return [row[1:] for row in self._present.values() if row[0] == "square"]

    @property
    def names(self):
        """All names that are present."""
        return list(self._present)

    def _file(self, row):
        """Do what a kept row does that is accepted."""
        kind, name = row[:2]
        if kind == "drop":
            if self._present[name][0] == "rule":
                self._rules = without_rule(self._rules, name)
            del self._present[name]
        else:
            if kind == "rule":
                self._rules = with_rule(self._rules, row[1:])
            self._present[name] = row
        self._rows.append(row)
        self._told.append(_with_list(row))

    def _keep_first(self, many):
        """Keep the first so many rows alone."""
        rows = self._rows[:many]
        self._rules = Rules(self.letters, [], weights=self.weights)
        self._rows = []
        self._present = {}
        self._told = []
        for row in rows:
            self._file(row)

    def put(self, row):
        """File a row."""
        if not _can_file(self, row):
            raise BadEntry(len(self._rows), row[1])
        self._file(_without_list(row))

    def put_all(self, rows):
        """File all rows of the list, or none."""
        many = len(self._rows)
        try:
            for row in rows:
                self.put(row)
        except BadEntry:
            self._keep_first(many)
            raise

    def undo(self):
        """Take out the last row and return it."""
        if not self._rows:
            raise NothingToUndo()
        row = self._rows[-1]
        self._keep_first(len(self._rows) - 1)
        return _with_list(row)

    def _present_row(self, kind, name):
        """The row that filed the present thing of this kind and name."""
        if not _is_kind(self, kind, name):
            raise Unknown(name)
        return _with_list(self._present[name])

    def way_of(self, name):
        """The present way of this name."""
        return self._present_row("way", name)[2]

    def square_of(self, name):
        """The present square of this name."""
        return self._present_row("square", name)[1:]

    def moves_of(self, name):
        """The start, the moves and the goal of the present row of moves of this name."""
        return self._present_row("moves", name)[2:]

    def link(self, start, goal):
        """The moves of the fewest present rows of moves that lead from the one way to the other, or None."""
        self.way_of(start)
        self.way_of(goal)
        route = _route(self, start, goal)
        if route is None:
            return None
        return [move for row, turns in route for move in _edge_moves(self, row, turns)]

    def twin(self):
        """A new book with the same rows."""
        return Book.replay(self.letters, self.rows, weights=self.weights)

    def __len__(self):
        return len(self._rows)

    def __iter__(self):
        return iter(self._told)

    def __contains__(self, name):
        return name in self._present

    def __eq__(self, other):
        return (isinstance(other, Book) and self.letters == other.letters
                and self.weights == other.weights and self._rows == other._rows)

    @staticmethod
    def replay(letters, rows, *, weights=None):
        """A new book with the rows filed in order."""
        book = Book(letters, weights=weights)
        book.put_all(rows)
        return book


def audit(letters, rows, *, weights=None):
    """The index of the first row that a book refuses when all are filed in order, or None."""
    try:
        Book.replay(letters, rows, weights=weights)
    except BadEntry as refusal:
        return refusal.at
    return None


def compare_books(one, other):
    """The names present in the first book alone, in the second alone, and in both for unequal rows."""
    first = [name for name in one.names if name not in other]
    second = [name for name in other.names if name not in one]
    unequal = [name for name in one.names if name in other and one._present[name] != other._present[name]]
    return first, second, unequal
