"""Candidates, derived sets, stable candidates and costs: points 14 to 16."""

import random
import unittest

import definition
from shapes import CallsCase, choose, deny, no, program, rule, yes
from stablepapers.parsing import parse
from stablepapers.programs import ground
from stablepapers.stable import body_holds, condition_holds, cost_of, derived, is_stable, supported

# Their weights add up to 5 in [0, 2] and to 2 in [0, 1, 2].
ROWS = [(2, (0,), ()), (3, (0, 2), (1,)), (4, (1,), (2,)), (0, (), ())]


class Conditions(unittest.TestCase):
    def test_yes_and_no(self):
        for candidate in ([], [0], [1], [0, 1], [0, 2, 3]):
            for number in range(4):
                self.assertIs(condition_holds(yes(number), candidate), number in candidate)
                self.assertIs(condition_holds(no(number), candidate), number not in candidate)

    def assert_weight(self, rows, candidate, weight):
        """Check the weight of the rows that count, by bounds that are one less, equal and one more."""
        for bound in (weight - 1, weight, weight + 1):
            self.assertIs(condition_holds(("least", bound, rows), candidate), weight >= bound)
            self.assertIs(condition_holds(("below", bound, rows), candidate), weight < bound)

    def test_sums(self):
        self.assert_weight(ROWS, [0, 2], 5)
        self.assert_weight(ROWS, [0, 1, 2], 2)
        self.assert_weight(ROWS, [0], 2)
        self.assert_weight(ROWS, [1], 4)
        self.assert_weight(ROWS, [0, 1], 6)
        self.assert_weight(ROWS, [2], 0)
        self.assert_weight(ROWS, [], 0)

    def test_rows_with_several_atoms(self):
        rows = [(1, (0, 1), (2, 3))]
        self.assert_weight(rows, [0, 1], 1)
        for candidate in ([], [0], [1], [0, 1, 2], [0, 1, 3], [0, 1, 2, 3], [2, 3]):
            self.assert_weight(rows, candidate, 0)

    def test_bounds_of_0_and_below(self):
        for bound in (0, -1, -50):
            for rows in ([], ROWS, [(0, (), ())], [(7, (3,), ())]):
                self.assertTrue(condition_holds(("least", bound, rows), [0]))
                self.assertFalse(condition_holds(("below", bound, rows), [0]))

    def test_empty_rows(self):
        for candidate in ([], [0, 1]):
            self.assert_weight([], candidate, 0)

    def test_rows_without_atoms(self):
        for candidate in ([], [0, 1]):
            self.assert_weight([(3, (), ())], candidate, 3)

    def test_rows_with_weight_0(self):
        self.assert_weight([(0, (0,), ())], [0], 0)
        self.assert_weight([(0, (0,), ()), (1, (0,), ()), (0, (), ())], [0], 1)

    def test_a_row_whose_yes_and_no_atoms_overlap_never_counts(self):
        for candidate in ([], [0], [1], [0, 1]):
            self.assert_weight([(5, (0,), (0,))], candidate, 0)
            self.assert_weight([(5, (0, 1), (1,))], candidate, 0)

    def test_an_atom_twice_in_a_row(self):
        self.assert_weight([(5, (0, 0), (1, 1))], [0], 5)

    def test_equal_rows_count_as_often_as_they_occur(self):
        self.assert_weight([(2, (0,), ())] * 3, [0], 6)

    def test_bodies(self):
        self.assertIs(body_holds([], []), True)
        self.assertIs(body_holds([], [0, 1]), True)
        holding = [yes(0), no(1), ("least", 2, ROWS), ("below", 6, ROWS)]
        failing = [yes(1), no(0), ("least", 6, ROWS), ("below", 5, ROWS)]
        self.assertIs(body_holds(holding, [0, 2]), True)
        for one in failing:
            self.assertIs(body_holds([one], [0, 2]), False)
            for place in range(5):
                self.assertIs(body_holds(holding[:place] + [one] + holding[place:], [0, 2]), False)

    def test_against_the_definition(self):
        chooser = random.Random(11)
        for _ in range(2000):
            body = definition.random_body(chooser, 4)
            candidate = sorted(chooser.sample(range(4), chooser.randint(0, 4)))
            self.assertIs(body_holds(body, candidate), all(definition.holds_in(one, candidate) for one in body))
            for one in body:
                self.assertIs(condition_holds(one, candidate), definition.holds_in(one, candidate))


class Supported(unittest.TestCase):
    def assert_supported(self, expected, body, founded, candidate):
        self.assertIs(supported(body, founded, candidate), expected)

    def test_empty_body(self):
        self.assert_supported(True, [], [], [])
        self.assert_supported(True, [], [1], [0])

    def test_yes_atoms_are_founded(self):
        self.assert_supported(True, [yes(0)], [0], [0, 1])
        self.assert_supported(False, [yes(1)], [0], [0, 1])
        # Whether the atom is in the candidate does not matter.
        self.assert_supported(True, [yes(2)], [0, 2], [0])
        self.assert_supported(False, [yes(0), yes(1)], [1], [0, 1])

    def test_no_atoms_are_not_in_the_candidate(self):
        self.assert_supported(True, [no(1)], [], [0])
        self.assert_supported(False, [no(0)], [], [0])
        # Whether the atom is founded does not matter.
        self.assert_supported(True, [no(1)], [1], [0])

    def test_below_holds_in_the_candidate(self):
        rows = [(2, (0,), ())]
        self.assert_supported(True, [("below", 3, rows)], [], [0])
        self.assert_supported(False, [("below", 2, rows)], [], [0])
        self.assert_supported(True, [("below", 2, rows)], [0], [1])

    def test_least_has_its_yes_atoms_founded_and_its_no_atoms_not_in_the_candidate(self):
        rows = [(2, (0,), ()), (3, (1,), (2,))]
        for founded, candidate, weight in (([0, 1], [0, 1], 5), ([0], [0, 1], 2), ([], [0, 1], 0), ([1], [0, 1], 3),
                                           ([0, 1], [0, 1, 2], 2), ([0, 1, 2], [0, 1], 5), ([0, 1], [], 5),
                                           ([1], [2], 0)):
            for bound in (weight - 1, weight, weight + 1):
                self.assert_supported(weight >= bound, [("least", bound, rows)], founded, candidate)

    def test_bounds_of_0_and_rows_without_atoms(self):
        self.assert_supported(True, [("least", 0, [])], [], [])
        self.assert_supported(True, [("least", -3, [(1, (0,), ())])], [], [])
        self.assert_supported(True, [("least", 4, [(4, (), ())])], [], [])
        self.assert_supported(False, [("below", 0, [])], [], [])

    def test_a_row_whose_yes_and_no_atoms_overlap(self):
        # The same atom may be founded and not in the candidate.
        rows = [(1, (0,), (0,))]
        self.assert_supported(True, [("least", 1, rows)], [0], [])
        self.assert_supported(False, [("least", 1, rows)], [0], [0])
        self.assert_supported(False, [("least", 1, rows)], [], [0])

    def test_conditions_in_any_order(self):
        body = [("below", 3, [(2, (0,), ())]), yes(1), ("least", 1, [(1, (1,), ())]), no(2), yes(0)]
        self.assert_supported(True, body, [0, 1], [0, 1])
        self.assert_supported(False, body, [0], [0, 1])
        self.assert_supported(False, body, [0, 1], [0, 1, 2])

    def test_against_the_definition(self):
        chooser = random.Random(12)
        seen = set()
        for _ in range(3000):
            body = definition.random_body(chooser, 4)
            founded, candidate = [sorted(chooser.sample(range(4), chooser.randint(0, 4))) for _ in range(2)]
            expected = definition.supported(body, founded, candidate)
            self.assert_supported(expected, body, founded, candidate)
            seen.add((expected, set(founded) < set(candidate), set(founded) > set(candidate)))
        self.assertEqual(len(seen), 6)


class Derived(unittest.TestCase):
    def assert_derived(self, rules, candidate, expected):
        found = derived(program(rules), candidate)
        self.assertIs(type(found), list)
        self.assertEqual(found, expected)

    def test_facts_and_chains(self):
        self.assert_derived([], [], [])
        self.assert_derived([], [0, 1], [])
        self.assert_derived([rule(2)], [], [2])
        self.assert_derived([rule(0, yes(1)), rule(1, yes(2)), rule(2, yes(3)), rule(3)], [], [0, 1, 2, 3])
        self.assert_derived([rule(3), rule(2, yes(3)), rule(1, yes(2), yes(3)), rule(0, yes(0))], [], [1, 2, 3])

    def test_no_conditions_ask_the_candidate(self):
        self.assert_derived([rule(0, no(1)), rule(1, no(0))], [], [0, 1])
        self.assert_derived([rule(0, no(1)), rule(1, no(0))], [0], [0])
        self.assert_derived([rule(0, no(1)), rule(1, no(0))], [0, 1], [])

    def test_loops_through_yes_atoms(self):
        loop = [rule(0, yes(1)), rule(1, yes(0))]
        self.assert_derived(loop, [0, 1], [])
        self.assert_derived(loop + [rule(0, yes(2)), choose(2)], [0, 1], [])
        self.assert_derived(loop + [rule(0, yes(2)), choose(2)], [0, 1, 2], [0, 1, 2])
        self.assert_derived([rule(0, yes(0))], [0], [])

    def test_loops_through_least_conditions(self):
        rows = [(1, (1,), ()), (1, (2,), ())]
        loop = [rule(0, ("least", 1, rows)), rule(1, yes(0))]
        self.assert_derived(loop, [0, 1], [])
        self.assert_derived(loop + [rule(2)], [0, 1, 2], [0, 1, 2])
        self.assert_derived([rule(0, ("least", 2, rows)), rule(1, yes(0)), rule(2)], [0, 1, 2], [2])
        self.assert_derived([rule(0, ("least", 1, [(1, (0,), ())]))], [0], [])
        self.assert_derived([rule(0, ("least", 0, [(1, (0,), ())]))], [], [0])

    def test_no_atoms_of_least_conditions_ask_the_candidate(self):
        body = ("least", 2, [(1, (1,), (2,)), (1, (), (3,))])
        self.assert_derived([rule(0, body), rule(1)], [], [0, 1])
        self.assert_derived([rule(0, body), rule(1)], [2], [1])
        self.assert_derived([rule(0, body), rule(1)], [3], [1])
        self.assert_derived([rule(0, body)], [1], [])

    def test_below_conditions_ask_the_candidate(self):
        body = ("below", 1, [(1, (1,), ())])
        self.assert_derived([rule(0, body), rule(1)], [], [0, 1])
        self.assert_derived([rule(0, body), rule(1)], [1], [1])
        self.assert_derived([rule(0, body)], [1], [])

    def test_choices(self):
        self.assert_derived([choose(0), choose(1), choose(2, yes(1))], [0], [0])
        self.assert_derived([choose(0), choose(1), choose(2, yes(1))], [1, 2], [1, 2])
        self.assert_derived([choose(0), choose(1), choose(2, yes(1))], [2], [])
        self.assert_derived([choose(0)], [], [])

    def test_denies_derive_nothing(self):
        self.assert_derived([deny(), deny(yes(0)), deny(no(1))], [0, 1], [])

    def test_atoms_outside_of_the_candidate_are_derived(self):
        self.assert_derived([rule(0), rule(1, yes(0)), rule(3, no(2))], [], [0, 1, 3])

    def test_bodies_with_an_atom_several_times(self):
        body = [yes(1), yes(1), ("least", 2, [(1, (1, 1), ()), (1, (1,), ())])]
        self.assert_derived([rule(0, *body), rule(1)], [], [0, 1])

    def test_long_chains_in_both_directions(self):
        many = 200
        atoms = [("a", (number,)) for number in range(many)]
        up = [rule(number + 1, yes(number)) for number in range(many - 1)]
        for rules in ([rule(0)] + up, up[::-1] + [rule(0)]):
            self.assertEqual(derived(("program", atoms, rules, []), []), list(range(many)))

    def test_against_the_definition(self):
        chooser = random.Random(13)
        for _ in range(400):
            tried = definition.random_program(chooser)
            for candidate in definition.subsets(range(4)):
                self.assertEqual(derived(tried, candidate), definition.derived(tried, candidate), tried)


class Stable(unittest.TestCase):
    def assert_stable(self, rules, *candidates):
        """Check which of all candidates are stable."""
        tried = program(rules)
        found = [one for one in definition.subsets(range(4)) if is_stable(tried, one)]
        self.assertEqual(sorted(found), sorted(candidates))

    def test_example_of_the_interface(self):
        tried = ground(parse("a :- not b. b :- not a. c :- a. :- b."))
        self.assertEqual(derived(tried, [1]), [1])
        found = [is_stable(tried, [0, 2]), is_stable(tried, [1]), is_stable(tried, [0])]
        self.assertEqual(found, [True, False, False])
        self.assertTrue(all(type(one) is bool for one in found))

    def test_no_rules(self):
        self.assert_stable([], [])
        self.assertTrue(is_stable(("program", [], [], []), []))

    def test_rules(self):
        self.assert_stable([rule(0), rule(1, yes(0))], [0, 1])
        self.assert_stable([rule(0, no(1)), rule(1, no(0))], [0], [1])
        self.assert_stable([rule(0, no(0))])
        self.assert_stable([rule(0, yes(0))], [])
        self.assert_stable([rule(0, yes(1)), rule(1, yes(0)), rule(1, no(2)), rule(2, no(1))], [0, 1], [2])

    def test_choices(self):
        self.assert_stable([choose(0), choose(1, yes(0))], [], [0], [0, 1])
        self.assert_stable([choose(0, yes(0))], [])
        self.assert_stable([choose(0), rule(1, no(0))], [0], [1])

    def test_denies(self):
        self.assert_stable([choose(0), choose(1), deny(yes(0), yes(1))], [], [0], [1])
        self.assert_stable([choose(0), deny(no(0))], [0])
        self.assert_stable([choose(0), deny()])
        self.assert_stable([choose(0), choose(1), deny(("below", 1, [(1, (0,), ()), (1, (1,), ())]))], [0], [1], [0, 1])
        self.assert_stable([choose(0), choose(1), deny(("least", 2, [(1, (0,), ()), (1, (1,), ())]))], [], [0], [1])
        # A deny behind the others and one among the rules.
        self.assert_stable([deny(yes(0)), choose(0), choose(1), choose(2), deny(no(1)), deny(yes(2))], [1])

    def test_atoms_that_occur_in_no_rule(self):
        tried = program([rule(1)], 8)
        self.assertTrue(is_stable(tried, [1]))
        self.assertFalse(is_stable(tried, [1, 7]))

    def test_texts(self):
        tried = ground(parse("range 1 3. 1 {q(X)} 1. p(X) :- q(X - 1). :- p(2), not q(3)."))
        atoms = tried[1]
        stable = [[atoms[number] for number in one] for one in definition.subsets(range(len(atoms)))
                  if is_stable(tried, one)]
        self.assertEqual(stable, [[("q", (3,))], [("p", (3,)), ("q", (2,))]])

    def test_against_the_definition(self):
        chooser = random.Random(14)
        stable = 0
        for _ in range(600):
            tried = definition.random_program(chooser)
            for candidate in definition.subsets(range(4)):
                expected = definition.is_stable(tried, candidate)
                self.assertIs(is_stable(tried, candidate), expected, (tried, candidate))
                stable += expected
        self.assertGreater(stable, 300)


class Costs(unittest.TestCase):
    def test_costs(self):
        tried = program([], costs=ROWS)
        for candidate, cost in (([], 0), ([0], 2), ([1], 4), ([0, 1], 6), ([0, 2], 5), ([0, 1, 2], 2), ([3], 0)):
            self.assertEqual(cost_of(tried, candidate), cost)

    def test_no_rows(self):
        self.assertEqual(cost_of(program([rule(0)]), [0]), 0)

    def test_rows_without_atoms_and_equal_rows(self):
        self.assertEqual(cost_of(program([], costs=[(3, (), ()), (2, (), (1,)), (2, (), (1,)), (0, (), ())]), [0]), 7)

    def test_a_candidate_need_not_be_stable(self):
        self.assertEqual(cost_of(ground(parse("a. minimize {5 : not a; 2 : a}.")), []), 5)

    def test_against_the_definition(self):
        chooser = random.Random(15)
        for _ in range(500):
            tried = definition.random_program(chooser)
            for candidate in definition.subsets(range(4)):
                self.assertEqual(cost_of(tried, candidate), definition.weight_of(tried[3], candidate, candidate))


class Calls(CallsCase):
    def test_arguments_are_left_alone_and_a_second_call_returns_the_same(self):
        body = [yes(0), ("least", 1, list(ROWS)), no(3), ("below", 9, list(ROWS))]
        tried = program([rule(1, *body), choose(0), rule(2, yes(1)), deny(*body)], costs=ROWS)
        for candidate in ([0, 1, 2], [], [0, 3]):
            for one in body:
                self.assert_left_alone(condition_holds, one, candidate)
            self.assert_left_alone(body_holds, body, candidate)
            self.assert_left_alone(supported, body, [0], candidate)
            self.assert_left_alone(derived, tried, candidate)
            self.assert_left_alone(is_stable, tried, candidate)
            self.assert_left_alone(cost_of, tried, candidate)

    def test_the_derived_set_is_a_list_of_its_own(self):
        tried, candidate = program([rule(0)]), [0]
        found = derived(tried, candidate)
        self.assertIsNot(found, candidate)
        found.append(3)
        self.assertEqual((derived(tried, candidate), candidate), ([0], [0]))


if __name__ == "__main__":
    unittest.main()
