"""What holds of every function: [1] names and arguments, [2] kinds, copies and order of errors, [5] errors."""

import copy
import importlib
import inspect
import itertools
import unittest

from keyroads.errors import RoadError, TooMany
from keyroads.network import Network
from tests.specs import BASES, all_functions, base_of, expected_error, good_net
from tests.values import any_values, few_values, is_plain, lists_in, more_values


def function_of(module, name):
    return getattr(importlib.import_module("keyroads." + module), name)


class Calls(unittest.TestCase):
    def judge_call(self, function, names, checks, arguments):
        """One call: it raises just what it has to, and changes nothing; or returns what it may."""
        before = copy.deepcopy([arguments[name] for name in names if not has_object(arguments[name])])
        expected = expected_error(checks, arguments)
        try:
            result = function(*[arguments[name] for name in names])
        except TooMany as error:
            self.assertIsNone(expected, (function, arguments))
            self.assertIs(type(error), TooMany)
        except RoadError as error:
            self.assertIsNotNone(expected, (function, arguments, error))
            self.assertIs(type(error), expected[0], (function, arguments))
            if expected[1] is None:
                self.assertEqual(repr(error.value), repr(expected[2]), (function, arguments))
            else:
                self.assertIs(error.value, arguments[expected[1]], (function, arguments))
        else:
            self.assertIsNone(expected, (function, arguments, result))
            self.judge_result(function, names, arguments, result)
        after = [arguments[name] for name in names if not has_object(arguments[name])]
        self.assertEqual(repr(before), repr(after))

    def judge_result(self, function, names, arguments, result):
        """What is returned is of the plain kinds, in new lists, none of them twice."""
        self.assertTrue(is_plain(result), (function, arguments, result))
        if "value" in names:
            self.assertIn(result, (True, False))
            self.assertIs(type(result), bool)
        lists = lists_in(result)
        self.assertEqual(len({id(item) for item in lists}), len(lists), (function, arguments))
        handed = {id(item) for name in names for item in lists_in(arguments[name])}
        self.assertFalse(handed & {id(item) for item in lists}, (function, arguments))
        kept = copy.deepcopy(result)
        for item in lists:
            item.append(None)
        again = function(**{name: arguments[name] for name in names})
        self.assertEqual(repr(again), repr(kept), (function, arguments))

    def test_right_arguments(self):
        for module, name, names, checks in all_functions():
            for base in BASES:
                self.judge_call(function_of(module, name), names, checks, base_of(name, names, base))

    def test_each_argument_takes_any_value(self):
        for module, name, names, checks in all_functions():
            function = function_of(module, name)
            for base in BASES:
                for changed in names:
                    for value in any_values() + more_values(changed):
                        if is_far_beyond(name, changed, value):
                            continue
                        arguments = base_of(name, names, base)
                        arguments[changed] = value
                        self.judge_call(function, names, checks, arguments)

    def test_two_arguments_take_any_values(self):
        for module, name, names, checks in all_functions():
            function = function_of(module, name)
            for one, other in itertools.combinations(names, 2):
                for first, second in itertools.product(few_values(), few_values()):
                    arguments = base_of(name, names, BASES[0])
                    arguments[one] = first
                    arguments[other] = second
                    self.judge_call(function, names, checks, arguments)

    def test_all_arguments_wrong(self):
        for module, name, names, checks in all_functions():
            for value in (None, True, "", {}, [True], (0, [])):
                if checks:
                    self.judge_call(function_of(module, name), names, checks, {key: value for key in names})

    def test_names_and_places(self):
        for module, name, names, _ in all_functions():
            function = function_of(module, name)
            self.assertEqual(list(inspect.signature(function).parameters), names)
            self.assertEqual(function.__module__, "keyroads." + module)
            self.assertEqual(function.__name__, name)

    def test_arguments_by_name_in_any_order(self):
        for module, name, names, checks in all_functions():
            function = function_of(module, name)
            for base in BASES:
                arguments = base_of(name, names, base)
                if expected_error(checks, arguments) is None:
                    try:
                        by_place = function(*[arguments[key] for key in names])
                    except TooMany:
                        continue
                    by_name = function(**{key: arguments[key] for key in reversed(names)})
                    self.assertEqual(by_place, by_name)

    def test_judges_take_nets_as_values(self):
        self.assertEqual([good_net(value) for value in any_values()],
                         [function_of("nets", "is_net")(value) for value in any_values()])


def is_far_beyond(name, changed, value):
    """Whether a number is so far beyond its limit that what is asked for never ends."""
    return (name in ("with_rounds", "rounds_without", "places_for") and changed == "many" and type(value) is int
            and value > 600)


def has_object(value):
    """Whether an object of a class stands within a value: copies of these are written in another way."""
    if isinstance(value, (list, tuple)):
        return any(has_object(item) for item in value)
    return isinstance(value, (RoadError, Network))


if __name__ == "__main__":
    unittest.main()
