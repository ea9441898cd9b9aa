"""What is sure and what is possible under an assignment: point 17, and the step "unfounded" of point 19."""

import copy
import itertools
import random
import unittest

import definition
from stablepapers.stable import body_holds, condition_holds
from stablepapers.values import (body_surely_fails, body_surely_holds, cut_off, may_count, surely_counts,
                                 surely_fails, surely_holds)

# One atom of each value.
YES, NO, OPEN = 0, 1, 2
VALUES = [True, False, None]


def random_assignment(chooser, many=4):
    return [chooser.choice([True, False, None]) for _ in range(many)]


class Rows(unittest.TestCase):
    def assert_row(self, yes, no, sure, possible):
        for weight in (0, 1, 999):
            self.assertIs(surely_counts((weight, yes, no), VALUES), sure)
            self.assertIs(may_count((weight, yes, no), VALUES), possible)

    def test_rows_without_atoms(self):
        self.assert_row((), (), True, True)

    def test_one_yes_atom(self):
        self.assert_row((YES,), (), True, True)
        self.assert_row((NO,), (), False, False)
        self.assert_row((OPEN,), (), False, True)

    def test_one_no_atom(self):
        self.assert_row((), (YES,), False, False)
        self.assert_row((), (NO,), True, True)
        self.assert_row((), (OPEN,), False, True)

    def test_several_atoms(self):
        self.assert_row((YES, YES), (NO, NO), True, True)
        self.assert_row((YES, OPEN), (NO,), False, True)
        self.assert_row((YES,), (NO, OPEN), False, True)
        self.assert_row((OPEN, OPEN), (OPEN,), False, True)
        self.assert_row((OPEN, NO), (NO,), False, False)
        self.assert_row((NO, OPEN), (NO,), False, False)
        self.assert_row((YES,), (YES, OPEN), False, False)
        self.assert_row((YES,), (OPEN, YES), False, False)

    def test_an_atom_on_both_sides(self):
        self.assert_row((YES,), (YES,), False, False)
        self.assert_row((NO,), (NO,), False, False)
        self.assert_row((OPEN,), (OPEN,), False, True)


class Conditions(unittest.TestCase):
    def assert_condition(self, condition, sure, impossible, values=None):
        self.assertIs(surely_holds(condition, values or VALUES), sure)
        self.assertIs(surely_fails(condition, values or VALUES), impossible)

    def test_yes_and_no(self):
        self.assert_condition(("yes", YES), True, False)
        self.assert_condition(("yes", NO), False, True)
        self.assert_condition(("yes", OPEN), False, False)
        self.assert_condition(("no", YES), False, True)
        self.assert_condition(("no", NO), True, False)
        self.assert_condition(("no", OPEN), False, False)

    def assert_weights(self, rows, sure, possible):
        """Check the weights of the rows that surely count and that may count, at the edges of the bounds."""
        for bound in {one + more for one in (sure, possible) for more in (-1, 0, 1)}:
            self.assert_condition(("least", bound, rows), sure >= bound, possible < bound)
            self.assert_condition(("below", bound, rows), possible < bound, sure >= bound)

    def test_sums(self):
        rows = [(1, (YES,), ()), (2, (), (NO,)), (4, (OPEN,), ()), (8, (NO,), ()), (16, (), (YES,)),
                (32, (YES,), (OPEN,))]
        self.assert_weights(rows, 3, 39)
        self.assert_weights(rows[:2], 3, 3)
        self.assert_weights(rows[2:3], 0, 4)
        self.assert_weights(rows[3:5], 0, 0)
        self.assert_weights([(5, (YES, OPEN), ()), (5, (OPEN,), (OPEN,)), (7, (), ())], 7, 17)

    def test_no_rows(self):
        self.assert_weights([], 0, 0)
        for bound in (-2, 0):
            self.assert_condition(("least", bound, []), True, False)
            self.assert_condition(("below", bound, []), False, True)

    def test_rows_with_weight_0_and_equal_rows(self):
        self.assert_weights([(0, (), ()), (0, (OPEN,), ())], 0, 0)
        self.assert_weights([(2, (YES,), ())] * 2 + [(3, (OPEN,), ())] * 3, 4, 13)

    def test_bounds_of_0_and_below(self):
        for bound in (0, -1):
            self.assert_condition(("least", bound, [(1, (NO,), ())]), True, False)
            self.assert_condition(("below", bound, [(1, (NO,), ())]), False, True)

    def test_against_the_definition(self):
        chooser = random.Random(21)
        seen = set()
        for _ in range(4000):
            condition = definition.random_plain_condition(chooser, 4)
            values = random_assignment(chooser)
            expected = definition.surely(condition, values)
            self.assertEqual((surely_holds(condition, values), surely_fails(condition, values)), expected)
            seen.add((condition[0], expected))
        # Of four kinds of conditions some are sure, some fail, and some are open.
        self.assertEqual(len(seen), 12)


class Bodies(unittest.TestCase):
    SURE = [("yes", YES), ("no", NO), ("least", 1, [(1, (YES,), ())]), ("below", 1, [(1, (NO,), ())])]
    UNSURE = [("yes", OPEN), ("no", OPEN), ("least", 1, [(1, (OPEN,), ())]), ("below", 1, [(1, (OPEN,), ())])]
    FAILING = [("yes", NO), ("no", YES), ("least", 1, [(1, (NO,), ())]), ("below", 1, [(1, (YES,), ())])]

    def assert_body(self, body, sure, impossible):
        self.assertIs(body_surely_holds(body, VALUES), sure)
        self.assertIs(body_surely_fails(body, VALUES), impossible)

    def test_empty_body(self):
        self.assert_body([], True, False)
        self.assertIs(body_surely_holds([], []), True)
        self.assertIs(body_surely_fails([], []), False)

    def test_bodies(self):
        self.assert_body(self.SURE, True, False)
        self.assert_body(self.UNSURE, False, False)
        self.assert_body(self.FAILING, False, True)
        for place in range(5):
            for one in self.UNSURE:
                self.assert_body(self.SURE[:place] + [one] + self.SURE[place:], False, False)
            for one in self.FAILING:
                self.assert_body(self.SURE[:place] + [one] + self.SURE[place:], False, True)
                self.assert_body(self.UNSURE[:place] + [one] + self.UNSURE[place:], False, True)

    def test_an_assignment_without_none_decides_every_condition(self):
        chooser = random.Random(22)
        for _ in range(400):
            body = definition.random_body(chooser, 4)
            for values in itertools.product([True, False], repeat=4):
                candidate = [number for number in range(4) if values[number]]
                for one in body:
                    self.assertIs(surely_holds(one, list(values)), condition_holds(one, candidate))
                    self.assertIs(surely_fails(one, list(values)), not condition_holds(one, candidate))
                self.assertIs(body_surely_holds(body, list(values)), body_holds(body, candidate))
                self.assertIs(body_surely_fails(body, list(values)), not body_holds(body, candidate))

    def test_what_is_sure_stays_so_when_more_is_decided(self):
        chooser = random.Random(23)
        for _ in range(400):
            body, values = definition.random_body(chooser, 4), random_assignment(chooser)
            choices = [[True, False] if one is None else [one] for one in values]
            for whole in itertools.product(*choices):
                candidate = [number for number in range(4) if whole[number]]
                if body_surely_holds(body, values):
                    self.assertTrue(body_holds(body, candidate))
                if body_surely_fails(body, values):
                    self.assertFalse(body_holds(body, candidate))


class CutOff(unittest.TestCase):
    def assert_cut_off(self, expected, body, group, values=None):
        self.assertIs(cut_off(body, group, values or [None] * 4), expected)

    def test_no_property(self):
        self.assert_cut_off(False, [], [0])
        self.assert_cut_off(False, [("yes", 1), ("no", 2)], [0])
        self.assert_cut_off(False, [("yes", 1)], [0, 2, 3], [None, True, None, None])

    def test_the_body_surely_fails(self):
        for condition in (("yes", 1), ("no", 2), ("least", 1, [(1, (1,), ())]), ("below", 1, [(1, (2,), ())])):
            for values, expected in (([None, False, True, None], True), ([None] * 4, False)):
                self.assert_cut_off(expected, [condition], [0], values)
                self.assert_cut_off(expected, [("yes", 3), condition, ("no", 3)], [0], values)
                self.assert_cut_off(expected, [condition], [], values)

    def test_a_yes_atom_of_the_group(self):
        for group in ([0], [0, 1], [3, 0], [1, 2, 0]):
            self.assert_cut_off(True, [("yes", 0)], group)
            self.assert_cut_off(True, [("no", 1), ("yes", 3), ("yes", 0)], group)
            self.assert_cut_off(True, [("yes", 0)], group, [True] * 4)
        self.assert_cut_off(False, [("yes", 0)], [1, 2, 3])
        self.assert_cut_off(False, [("yes", 0)], [])

    def test_no_and_below_conditions_with_atoms_of_the_group(self):
        self.assert_cut_off(False, [("no", 0), ("below", 1, [(1, (0,), (0,))])], [0])

    def test_least_conditions(self):
        rows = [(1, (0,), ()), (2, (1,), (0,)), (4, (0, 2), ())]
        # The weight of the rows without atoms of the group among their yes atoms; no atoms do not matter.
        for group, weight in (([0], 2), ([1], 5), ([2], 3), ([0, 1], 0), ([1, 2], 1), ([3], 7), ([], 7), ([2, 0], 2)):
            self.assert_cut_off(False, [("least", weight, rows)], group)
            self.assert_cut_off(True, [("least", weight + 1, rows)], group)
            self.assert_cut_off(True, [("no", 3), ("least", weight + 1, rows), ("no", 3)], group)

    def test_rows_of_least_conditions_that_cannot_count(self):
        rows = [(1, (1,), ()), (2, (), (2,)), (4, (3,), ())]
        values = [None, False, True, None]
        self.assert_cut_off(False, [("least", 4, rows)], [0], values)
        self.assert_cut_off(True, [("least", 5, rows)], [0], values)
        self.assert_cut_off(True, [("least", 1, rows)], [3], values)
        self.assert_cut_off(False, [("least", 0, rows)], [3], values)
        self.assert_cut_off(False, [("least", 4, rows)], [0], [None, False, True, True])

    def test_least_conditions_without_atoms_in_rows(self):
        self.assert_cut_off(False, [("least", 3, [(3, (), ())])], [0, 1, 2, 3])
        self.assert_cut_off(True, [("least", 4, [(3, (), ())])], [0, 1, 2, 3])
        self.assert_cut_off(False, [("least", 0, [])], [0])
        self.assert_cut_off(True, [("least", 1, [])], [])

    def test_the_properties_do_not_add_up(self):
        # Two least conditions, neither of which is cut off by itself.
        body = [("least", 1, [(1, (0,), ()), (1, (1,), ())]), ("least", 1, [(1, (1,), ()), (1, (2,), ())])]
        self.assert_cut_off(False, body, [0, 2])
        self.assert_cut_off(True, body, [0, 1])

    def test_against_the_definition(self):
        chooser = random.Random(24)
        seen = set()
        for _ in range(4000):
            body, values = definition.random_body(chooser, 4), random_assignment(chooser)
            group = chooser.sample(range(4), chooser.randint(0, 4))
            apart = [(one[1], [row for row in one[2] if not set(row[1]) & set(group)])
                     for one in body if one[0] == "least"]
            reasons = (
                any(definition.surely(one, values)[1] for one in body),
                any(one[0] == "yes" and one[1] in group for one in body),
                any(definition.sure_and_possible(rows, values)[1] < bound for bound, rows in apart),
            )
            self.assert_cut_off(any(reasons), body, group, values)
            seen.add(reasons)
        for alone in ((True, False, False), (False, True, False), (False, False, True), (False, False, False)):
            self.assertIn(alone, seen)


class Calls(unittest.TestCase):
    def assert_left_alone(self, function, *arguments):
        kept = copy.deepcopy(arguments)
        first = function(*arguments)
        self.assertIs(type(first), bool)
        self.assertEqual(arguments, kept)
        self.assertIs(function(*arguments), first)
        self.assertEqual(arguments, kept)

    def test_arguments_are_left_alone_and_a_second_call_returns_the_same(self):
        chooser = random.Random(25)
        for _ in range(50):
            body, values = definition.random_body(chooser, 4, 5), random_assignment(chooser)
            self.assert_left_alone(body_surely_holds, body, values)
            self.assert_left_alone(body_surely_fails, body, values)
            self.assert_left_alone(cut_off, body, [1, 0], values)
            for one in body:
                self.assert_left_alone(surely_holds, one, values)
                self.assert_left_alone(surely_fails, one, values)
            for row in definition.random_rows(chooser, 4):
                self.assert_left_alone(surely_counts, row, values)
                self.assert_left_alone(may_count, row, values)


if __name__ == "__main__":
    unittest.main()
