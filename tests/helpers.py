"""What the tests of all modules share."""

import copy
import inspect
import itertools
import unittest


class Case(unittest.TestCase):

    def refuses(self, expected, call, *args, **named):
        """The call raises an error of exactly this class with exactly these attributes."""
        try:
            result = call(*args, **named)
        except type(expected) as error:
            self.assertIs(type(error), type(expected))
            self.assertEqual(vars(error), vars(expected))
            return
        self.fail(f"no {type(expected).__name__}, but the result {result!r}")

    def judges(self, expected, call, *args):
        """The call returns True or False itself, not a value that counts as such."""
        self.assertIs(call(*args), expected)


def positions_and_names(call, given):
    """The arguments that may be passed by position, and those that may not."""
    keyword = [name for name, parameter in inspect.signature(call).parameters.items()
               if parameter.kind == inspect.Parameter.KEYWORD_ONLY]
    by_position = [given[name] for name in given if name not in keyword]
    return by_position, {name: given[name] for name in keyword}


def spoil(value):
    """Change every list in the value."""
    if isinstance(value, (list, tuple)):
        for part in value:
            spoil(part)
    if isinstance(value, list):
        value.append("spoiled")
        value.reverse()


class Calls:
    """Points 2 and 3 for calls with ordinary arguments: tuples that begin with the call and end with its arguments."""

    CALLS = []

    def calls(self):
        return [(row[0], row[-1]) for row in self.CALLS]

    def test_headings_that_are_told(self):
        for row in self.CALLS:
            if len(row) == 3:
                self.assertEqual(str(inspect.signature(row[0])), row[1], row[0])

    def test_arguments_by_position_and_by_name(self):
        for call, given in self.calls():
            by_position, named = positions_and_names(call, given)
            self.assertEqual(call(*by_position, **named), call(**given), call)
            if named:
                with self.assertRaises(TypeError):
                    call(*by_position, *named.values())

    def test_arguments_stay_as_they_were(self):
        for call, given in self.calls():
            before = copy.deepcopy(given)
            call(**given)
            self.assertEqual(given, before, call)

    def test_the_same_call_twice(self):
        for call, given in self.calls():
            self.assertEqual(call(**given), call(**given), call)

    def test_every_returned_list_is_a_new_one(self):
        for call, given in self.calls():
            first = call(**given)
            kept = copy.deepcopy(first)
            before = copy.deepcopy(given)
            spoil(first)
            self.assertEqual(given, before, call)
            self.assertEqual(call(**given), kept, call)

    def test_modules_define_what_they_list(self):
        for call, given in self.calls():
            if not inspect.ismethod(call):
                self.assertEqual(call.__module__.split(".")[0], "wayfill")
                self.assertIs(getattr(inspect.getmodule(call), call.__name__), call)


class Orders:
    """Point 4 for calls: for each argument in order a right value, a wrong one and the error of the wrong one.

    An argument without a wrong value is always right. Behind the arguments stands the name of a last one that is
    passed by name, or None.
    """

    ORDERS = []

    def test_the_first_wrong_argument_is_told(self):
        for call, parts, last_name in self.ORDERS:
            choices = [range(min(len(part), 2)) for part in parts]
            for wrong in itertools.product(*choices):
                given = [part[at] for part, at in zip(parts, wrong)]
                named = {}
                if last_name is not None:
                    named[last_name] = given.pop()
                if 1 in wrong:
                    self.refuses(parts[wrong.index(1)][2], call, *given, **named)
                else:
                    call(*given, **named)
