"""Short names for plain programs and their parts, and the check that a call leaves its arguments alone (point 1)."""

import copy
import unittest


def program(rules, many=4, costs=()):
    return ("program", [(name, ()) for name in "abcdefgh"[:many]], rules, list(costs))


def rule(head, *body):
    return ("rule", head, list(body))


def choose(head, *body):
    return ("choose", head, list(body))


def deny(*body):
    return ("deny", None, list(body))


def yes(number):
    return ("yes", number)


def no(number):
    return ("no", number)


def least(bound, *rows):
    return ("least", bound, list(rows))


def below(bound, *rows):
    return ("below", bound, list(rows))


def chain(many):
    """Return a program with a fact, and with a rule for each further atom that has the one before it."""
    rules = [rule(0)] + [rule(number, yes(number - 1)) for number in range(1, many)]
    return ("program", [("a", (number,)) for number in range(many)], rules, [])


def loop(many, *body):
    """Return the rules of a loop through some atoms: each has the next one as its condition, the last one a body."""
    rules = [rule(number, yes(number + 1)) for number in range(many - 1)]
    return rules + [rule(many - 1, yes(0))] + ([rule(many - 1, *body)] if body else [])


def containers(thing):
    """Return the lists and dicts in a value, and the value itself, if it is one; by their numbers in memory."""
    if isinstance(thing, (list, dict)):
        inner = thing.values() if isinstance(thing, dict) else thing
        found = {id(thing)}
    else:
        inner = thing if isinstance(thing, tuple) else ()
        found = set()
    for one in inner:
        found |= containers(one)
    return found


class CallsCase(unittest.TestCase):
    def assert_left_alone(self, function, *arguments):
        """Call a function twice: the arguments stay as they are, and nothing of them is in what it returns."""
        kept = copy.deepcopy(arguments)
        first = function(*arguments)
        self.assertEqual(arguments, kept)
        self.assertFalse(containers(first) & containers(arguments))
        second = function(*arguments)
        self.assertEqual(second, first)
        self.assertFalse(containers(first) & containers(second))
        self.assertEqual(arguments, kept)
        return first
