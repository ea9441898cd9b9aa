"""The greatest unfounded list of atoms: point 19."""

import itertools
import random
import unittest

import definition
import papers
from shapes import CallsCase, below, choose, deny, least, loop, no, rule, yes
from stablepapers.refuted import node_right
from stablepapers.unfounded import unfounded_atoms

T, F, N = True, False, None


def greatest(rules, values):
    """Return the atoms of all lists for which the step is right, without False ones, by trying all lists."""
    free = [atom for atom, value in enumerate(values) if value is not False]
    found = set()
    for atoms in definition.subsets(free):
        if papers.step_right(rules, ("unfounded", atoms), values):
            found.update(atoms)
    return sorted(found)


class Lists(unittest.TestCase):
    def assert_unfounded(self, rules, values, atoms):
        self.assertEqual(unfounded_atoms(rules, values), atoms)
        self.assertEqual(greatest(rules, values), atoms)

    def test_atoms_in_no_rule(self):
        self.assert_unfounded([], [], [])
        self.assert_unfounded([], [N, N, N], [0, 1, 2])
        self.assert_unfounded([rule(1)], [N, N, N], [0, 2])
        self.assert_unfounded([rule(1), deny(yes(2), no(0))], [N, N, N], [0, 2])
        self.assert_unfounded([rule(1, no(2))], [N, N, N], [0, 2])

    def test_true_atoms_belong_to_it_and_false_ones_do_not(self):
        self.assert_unfounded([], [T, F, N], [0, 2])
        self.assert_unfounded(loop(3), [T, N, T], [0, 1, 2])
        self.assert_unfounded(loop(3), [T, F, N], [0, 2])
        self.assert_unfounded(loop(3), [F, F, F], [])

    def test_nothing_is_unfounded(self):
        self.assert_unfounded([rule(0), choose(1), rule(2, yes(1))], [N, N, N], [])
        self.assert_unfounded([rule(0, no(1)), rule(1, no(0))], [N, N], [])

    def test_loops(self):
        self.assert_unfounded(loop(3), [N, N, N], [0, 1, 2])
        self.assert_unfounded(loop(3, no(3)) + [choose(3)], [N, N, N, N], [])
        self.assert_unfounded(loop(3, no(3)) + [choose(3)], [N, N, N, T], [0, 1, 2])
        self.assert_unfounded(loop(3, yes(3)), [N, N, N, N], [0, 1, 2, 3])
        self.assert_unfounded([rule(0, yes(0)), rule(1, yes(1)), choose(1)], [N, N], [0])

    def test_rules_that_fail(self):
        rules = [rule(0, yes(1)), rule(0, no(2)), choose(1), choose(2)]
        self.assert_unfounded(rules, [N, N, N], [])
        self.assert_unfounded(rules, [N, F, N], [])
        self.assert_unfounded(rules, [N, N, T], [])
        self.assert_unfounded(rules, [N, F, T], [0])
        self.assert_unfounded(rules, [T, F, T], [0])

    def test_sums(self):
        rules = [rule(0, least(2, (1, (1,), ()), (1, (2,), ()), (1, (), (3,)))), rule(1, yes(0)), choose(2), choose(3)]
        self.assert_unfounded(rules, [N, N, N, N], [])
        self.assert_unfounded(rules, [N, N, F, N], [0, 1])
        self.assert_unfounded(rules, [N, N, N, T], [0, 1])
        self.assert_unfounded(rules, [N, F, N, N], [])
        self.assert_unfounded([rule(0, below(1, (1, (0,), ())))], [N], [])
        self.assert_unfounded([rule(0, below(1, (1, (0,), ())))], [T], [0])
        self.assert_unfounded([rule(0, least(0, (1, (0,), ())))], [N], [])
        self.assert_unfounded([rule(0, least(1, (0, (1,), ()), (1, (0,), ()))), choose(1)], [N, N], [0])

    def test_atoms_far_away_come_in_ascending_order(self):
        rules = [rule(3, yes(0)), rule(0, yes(2)), choose(1)]
        self.assert_unfounded(rules, [N, N, N, N], [0, 2, 3])

    def test_a_long_loop(self):
        many = 90
        values = [N] * (many + 1)
        rules = loop(many, yes(many)) + [choose(many)]
        everything = list(range(many))
        self.assertEqual(unfounded_atoms(rules, values), [])
        self.assertEqual(unfounded_atoms(rules[:-1], values), everything + [many])
        self.assertEqual(unfounded_atoms(rules[::-1], values), [])
        self.assertEqual(unfounded_atoms(rules, values[:-1] + [F]), everything)
        self.assertEqual(unfounded_atoms(rules[::-1], [T] * many + [F]), everything)
        # What is before the False atom is founded on no other one, and what is behind it is still in a row.
        self.assertEqual(unfounded_atoms(rules, [N] * 30 + [F] + [N] * 60), everything[:30])

    def test_a_long_loop_through_sums(self):
        many = 90
        rules = [rule(atom, least(2, (1, ((atom + 1) % many,), ()), (1, (many,), ()))) for atom in range(many)]
        rules += [choose(many), choose(many + 1)]
        self.assertEqual(unfounded_atoms(rules, [N] * (many + 2)), list(range(many)))
        more = rules + [rule(7, yes(many + 1))]
        self.assertEqual(unfounded_atoms(more, [N] * (many + 2)), [])
        self.assertEqual(unfounded_atoms(more, [N] * (many + 1) + [F]), list(range(many)))


class AgainstTheDefinition(unittest.TestCase):
    def test_all_assignments_of_small_programs(self):
        chooser = random.Random(31)
        found = 0
        for turn in range(150):
            many = turn % 2 + 2
            rules = papers.loopy_program(chooser, many)[2]
            for values in itertools.product([T, F, N], repeat=many):
                expected = greatest(rules, list(values))
                found += bool(expected)
                self.assertEqual(unfounded_atoms(rules, list(values)), expected, (rules, values))
        self.assertGreater(found, 500)

    def test_drawn_assignments(self):
        chooser = random.Random(32)
        for turn in range(700):
            many = turn % 3 + 3
            draw = papers.loopy_program if turn % 2 else definition.random_program
            rules = draw(chooser, many)[2]
            values = [chooser.choice([T, F, N, N]) for _ in range(many)]
            self.assertEqual(unfounded_atoms(rules, values), greatest(rules, values), (rules, values))

    def test_the_step_is_right(self):
        chooser = random.Random(33)
        for _ in range(300):
            rules = papers.loopy_program(chooser, 9)[2]
            values = [chooser.choice([F, N, N]) for _ in range(9)]
            atoms = unfounded_atoms(rules, values)
            if atoms:
                node = ([("unfounded", atoms), ("fire", len(rules))], None)
                self.assertTrue(node_right(rules + [deny(no(atoms[0]))], node, values))
                self.assertNotIn(F, [values[atom] for atom in atoms])
                self.assertEqual(atoms, sorted(set(atoms)))


class Calls(CallsCase):
    def test_arguments_are_left_alone_and_a_second_call_returns_the_same(self):
        rules = loop(3) + [choose(3, least(1, (1, (4,), (0,)))), choose(4), deny(below(1, (1, (3,), ())))]
        for values in ([N] * 5, [T, N, F, N, N], [N, N, N, N, F]):
            self.assert_left_alone(unfounded_atoms, rules, values)


if __name__ == "__main__":
    unittest.main()
