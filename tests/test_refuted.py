"""None papers: points 19 to 21."""

import random
import unittest

import definition
import papers
from shapes import CallsCase, below, choose, deny, least, loop, no, program, rule, yes
from stablepapers.parsing import parse
from stablepapers.programs import ground
from stablepapers.refuted import node_right, none_right
from stablepapers.search import search

T, F, N = True, False, None
# No node is accepted with this end, as the second split in it splits on the same atom.
NEVER = ("split", 0, ([], None), ([], None))


class NodeCase(unittest.TestCase):
    def assert_node(self, expected, rules, node, values):
        self.assertIs(node_right(rules, node, values), expected)
        self.assertIs(papers.node_right(rules, node, values), expected)

    def assert_sets(self, rules, step, values, after):
        """Check that a step is right and what it sets, by denies that clash exactly for these values."""
        signs = {True: "yes", False: "no"}
        body = [(signs[value], atom) for atom, value in enumerate(after) if value is not None]
        open_atoms = [atom for atom, value in enumerate(after) if value is None]
        rules = rules + [deny(*body)]
        last = ("fire", len(rules) - 1)
        self.assert_node(True, rules, ([step, last], None), values)
        for place in range(len(body)):
            kind, atom = body[place]
            other = body[:place] + [("no" if kind == "yes" else "yes", atom)] + body[place + 1:]
            self.assert_node(False, rules[:-1] + [deny(*other)], ([step, last], None), values)
        for atom in open_atoms:
            end = ("split", atom, ([last], None), ([last], None))
            self.assert_node(True, rules, ([step], end), values)

    def assert_clash(self, rules, step, values):
        self.assert_node(True, rules, ([step], None), values)
        self.assert_node(False, rules, ([step, step], None), values)
        self.assert_node(False, rules, ([step], NEVER), values)

    def assert_wrong(self, rules, step, values):
        """Check that a step is not right: with a deny that fires behind it the node is not accepted."""
        self.assert_node(False, rules, ([step], None), values)
        self.assert_node(False, rules + [deny()], ([step, ("fire", len(rules))], None), values)
        # Without the wrong step it is.
        self.assert_node(True, rules + [deny()], ([("fire", len(rules))], None), values)


class Examples(unittest.TestCase):
    def test_of_the_interface(self):
        tried = ground(parse("a :- not a."))
        node = ([], ("split", 0, ([("unfounded", [0])], None), ([("fire", 0)], None)))
        self.assertIs(none_right(tried, node), True)
        self.assertIs(none_right(tried, ([("fire", 0)], None)), False)


class Fire(NodeCase):
    def test_a_rule_sets_its_head(self):
        self.assert_sets([rule(0)], ("fire", 0), [N, N], [T, N])
        self.assert_sets([rule(0, yes(1), no(2))], ("fire", 0), [N, T, F], [T, T, F])
        self.assert_sets([rule(0)], ("fire", 0), [T, N], [T, N])

    def test_a_body_with_sums(self):
        rules = [rule(0, least(2, (1, (1,), ()), (1, (), (2,))), below(2, (1, (2,), ()), (1, (3,), ())))]
        self.assert_sets(rules, ("fire", 0), [N, T, F, N], [T, T, F, N])
        for values in ([N, N, F, N], [N, T, N, N], [N, T, N, F], [N, F, F, F]):
            self.assert_wrong(rules, ("fire", 0), values)

    def test_a_false_head_is_a_clash(self):
        self.assert_clash([rule(0)], ("fire", 0), [F])
        self.assert_clash([rule(0, yes(1))], ("fire", 0), [F, T])

    def test_a_deny_is_a_clash(self):
        self.assert_clash([deny()], ("fire", 0), [N])
        self.assert_clash([deny()], ("fire", 0), [])
        self.assert_clash([deny(yes(0), no(1))], ("fire", 0), [T, F])
        self.assert_wrong([deny(yes(0), no(1))], ("fire", 0), [T, N])
        self.assert_wrong([deny(yes(0), no(1))], ("fire", 0), [N, F])

    def test_a_body_that_does_not_surely_hold(self):
        for values in ([N, N], [N, F], [T, N], [F, N], [F, F]):
            self.assert_wrong([rule(0, yes(1))], ("fire", 0), values)
        for values in ([N, N], [N, T]):
            self.assert_wrong([rule(0, no(1))], ("fire", 0), values)
        self.assert_wrong([rule(0, no(0))], ("fire", 0), [N])

    def test_a_choose(self):
        self.assert_wrong([choose(0)], ("fire", 0), [N])
        self.assert_wrong([choose(0)], ("fire", 0), [F])
        self.assert_wrong([choose(0, yes(1))], ("fire", 0), [N, T])

    def test_indexes_out_of_range(self):
        for number in (-1, -2, 2, 3, 10 ** 30, -10 ** 30):
            self.assert_wrong([rule(0), rule(1)], ("fire", number), [N, N])
            self.assert_wrong([deny(), deny()], ("fire", number), [N, N])


class Block(NodeCase):
    def test_a_deny_with_one_condition_left(self):
        rules = [deny(yes(0), no(1))]
        self.assert_sets(rules, ("block", 0, 0), [N, F], [F, F])
        self.assert_sets(rules, ("block", 0, 1), [T, N], [T, T])
        self.assert_sets([deny(yes(0))], ("block", 0, 0), [N, N], [F, N])
        self.assert_sets([deny(no(0))], ("block", 0, 0), [N, N], [T, N])

    def test_a_rule_whose_head_is_false(self):
        self.assert_sets([rule(2, yes(0), no(1))], ("block", 0, 0), [N, F, F], [F, F, F])
        self.assert_sets([rule(2, yes(0), no(1))], ("block", 0, 1), [T, N, F], [T, T, F])

    def test_a_rule_whose_head_is_true_or_undecided(self):
        for head in (T, N):
            self.assert_wrong([rule(1, yes(0))], ("block", 0, 0), [N, head])
            self.assert_wrong([rule(1, no(0))], ("block", 0, 0), [N, head])
        self.assert_wrong([rule(0, no(0))], ("block", 0, 0), [N])

    def test_a_choose(self):
        for head in (F, T, N):
            self.assert_wrong([choose(1, yes(0))], ("block", 0, 0), [N, head])

    def test_the_condition_has_its_value_already(self):
        self.assert_sets([deny(yes(0))], ("block", 0, 0), [F, N], [F, N])
        self.assert_sets([deny(no(0))], ("block", 0, 0), [T, N], [T, N])

    def test_a_clash(self):
        self.assert_clash([deny(yes(0))], ("block", 0, 0), [T])
        self.assert_clash([deny(no(0))], ("block", 0, 0), [F])
        self.assert_clash([rule(1, yes(0), yes(2))], ("block", 0, 0), [T, F, T])
        # The head is False, so its no condition holds; setting it to True is a clash.
        self.assert_clash([rule(0, no(0))], ("block", 0, 0), [F])

    def test_another_condition_that_does_not_surely_hold(self):
        for value in (N, F):
            self.assert_wrong([deny(yes(0), yes(1))], ("block", 0, 0), [N, value])
            self.assert_wrong([deny(yes(1), yes(0))], ("block", 0, 1), [N, value])
            self.assert_wrong([deny(yes(0), least(1, (1, (1,), ())))], ("block", 0, 0), [N, value])
        for value in (N, T):
            self.assert_wrong([deny(yes(0), no(1))], ("block", 0, 0), [N, value])
            self.assert_wrong([deny(yes(0), below(1, (1, (1,), ())))], ("block", 0, 0), [N, value])
        # The same condition twice: the other one does not hold either.
        self.assert_wrong([deny(yes(0), yes(0))], ("block", 0, 0), [N])
        self.assert_clash([deny(yes(0), yes(0))], ("block", 0, 1), [T])

    def test_other_conditions_that_are_sums(self):
        rules = [deny(least(1, (1, (1,), ())), yes(0), below(1, (1, (2,), ())))]
        self.assert_sets(rules, ("block", 0, 1), [N, T, F], [F, T, F])

    def test_a_condition_that_is_a_sum(self):
        rules = [deny(yes(1), least(1, (1, (0,), ()))), deny(below(1, (1, (0,), ())), yes(1))]
        self.assert_wrong(rules, ("block", 0, 1), [N, T])
        self.assert_wrong(rules, ("block", 1, 0), [N, T])
        self.assert_wrong(rules, ("block", 0, 1), [T, T])
        self.assert_wrong(rules, ("block", 1, 0), [F, T])

    def test_indexes_out_of_range(self):
        rules = [deny(yes(0)), deny(yes(0))]
        for number in (-1, -2, 2, 10 ** 30, -10 ** 30):
            self.assert_wrong(rules, ("block", number, 0), [N])
        for place in (-1, 1, 2, 10 ** 30, -10 ** 30):
            self.assert_wrong(rules, ("block", 0, place), [N])
        self.assert_wrong([deny()], ("block", 0, 0), [N])
        self.assert_wrong([deny()], ("block", 0, -1), [N])


class Only(NodeCase):
    def test_the_one_rule_that_is_left(self):
        rules = [rule(0, yes(1), no(2)), rule(0, yes(3))]
        self.assert_sets(rules, ("only", 0, 0), [T, N, N, F], [T, T, F, F])
        self.assert_sets(rules, ("only", 0, 1), [T, F, N, N], [T, F, N, T])
        self.assert_sets(rules, ("only", 0, 1), [T, N, T, N], [T, N, T, T])

    def test_the_one_rule_that_there_is(self):
        self.assert_sets([rule(0, yes(1), no(2))], ("only", 0, 0), [T, N, N], [T, T, F])
        self.assert_sets([choose(0, yes(1), no(2))], ("only", 0, 0), [T, N, N], [T, T, F])
        self.assert_sets([rule(0)], ("only", 0, 0), [T, N], [T, N])

    def test_sums_set_nothing(self):
        rules = [rule(0, least(1, (1, (1,), ())), yes(2), below(1, (1, (3,), ())))]
        self.assert_sets(rules, ("only", 0, 0), [T, N, N, N], [T, N, T, N])

    def test_denies_with_the_atom_and_rules_for_other_atoms_do_not_count(self):
        rules = [deny(yes(0), yes(2)), rule(0, yes(1)), rule(1, yes(0)), deny()]
        self.assert_sets(rules, ("only", 0, 1), [T, N, N], [T, T, N])

    def test_a_second_rule_that_does_not_surely_fail(self):
        for second in (rule(0, yes(2)), choose(0, yes(2)), rule(0, least(1, (1, (2,), ())))):
            for value in (T, N):
                self.assert_wrong([rule(0, yes(1)), second], ("only", 0, 0), [T, N, value])
                self.assert_wrong([second, rule(0, yes(1))], ("only", 0, 1), [T, N, value])
            self.assert_sets([rule(0, yes(1)), second], ("only", 0, 0), [T, N, F], [T, T, F])
        self.assert_wrong([rule(0, yes(1)), rule(0, below(1, (1, (2,), ())))], ("only", 0, 0), [T, N, F])
        self.assert_sets([rule(0, yes(1)), rule(0, below(1, (1, (2,), ())))], ("only", 0, 0), [T, N, T], [T, T, T])

    def test_an_equal_second_rule(self):
        self.assert_wrong([rule(0, yes(1)), rule(0, yes(1))], ("only", 0, 0), [T, N])
        self.assert_wrong([rule(0, yes(1)), rule(0, yes(1))], ("only", 0, 1), [T, N])

    def test_an_atom_that_is_not_true(self):
        for value in (F, N):
            self.assert_wrong([rule(0, yes(1))], ("only", 0, 0), [value, N])
            self.assert_wrong([rule(0, yes(1))], ("only", 0, 0), [value, F])

    def test_another_head_or_a_deny(self):
        rules = [rule(0, yes(2)), rule(1, yes(2)), deny(yes(2))]
        self.assert_wrong(rules, ("only", 0, 1), [T, T, N])
        self.assert_wrong(rules, ("only", 1, 0), [T, T, N])
        self.assert_wrong(rules, ("only", 0, 2), [T, T, N])

    def test_a_rule_that_fails_itself_clashes(self):
        self.assert_clash([rule(0, yes(1))], ("only", 0, 0), [T, F])
        self.assert_clash([rule(0, no(1))], ("only", 0, 0), [T, T])
        self.assert_clash([rule(0, yes(2), no(1))], ("only", 0, 0), [T, T, N])
        self.assert_clash([rule(0, no(0))], ("only", 0, 0), [T])

    def test_all_rules_fail(self):
        self.assert_clash([rule(0, yes(1)), rule(0, no(2))], ("only", 0, 0), [T, F, T])
        self.assert_clash([rule(0, yes(1)), rule(0, no(2))], ("only", 0, 1), [T, F, T])

    def test_a_step_that_clashes_with_itself(self):
        for body in ((yes(1), no(1)), (no(1), yes(1)), (yes(1), yes(2), no(3), no(1)), (no(1), yes(2), yes(1))):
            self.assert_clash([rule(0, *body)], ("only", 0, 0), [T, N, N, N])
            self.assert_clash([choose(0, *body)], ("only", 0, 0), [T, N, N, N])
            self.assert_clash([rule(0, *body)], ("only", 0, 0), [T, T, N, N])
            self.assert_clash([rule(0, *body)], ("only", 0, 0), [T, F, N, N])
        self.assert_sets([rule(0, yes(1), yes(1), no(2), no(2))], ("only", 0, 0), [T, N, N], [T, T, F])

    def test_indexes_out_of_range(self):
        rules = [rule(0, yes(1)), rule(1, yes(0))]
        for atom in (-2, -1, 2, 10 ** 30, -10 ** 30):
            self.assert_wrong(rules, ("only", atom, 0), [T, T])
            self.assert_wrong(rules, ("only", atom, 1), [T, T])
        for number in (-2, -1, 2, 10 ** 30, -10 ** 30):
            self.assert_wrong(rules, ("only", 0, number), [T, T])
            self.assert_wrong(rules, ("only", 1, number), [T, T])
        # All rules with the head fail, and the rule is one of them only if its index is counted from the end.
        self.assert_wrong([rule(0, yes(1))], ("only", 0, -1), [T, F])


class Unfounded(NodeCase):
    def test_atoms_without_rules(self):
        self.assert_sets([], ("unfounded", [0]), [N, N], [F, N])
        self.assert_sets([rule(1), deny(yes(0))], ("unfounded", [0]), [N, N], [F, N])
        self.assert_sets([rule(1)], ("unfounded", [2, 0]), [N, N, N], [F, N, F])

    def test_a_loop(self):
        for values in ([N, N, N, N], [F, N, N, N]):
            after = [F, F, F, N]
            self.assert_sets(loop(3), ("unfounded", [0, 1, 2]), values, after)
            self.assert_sets(loop(3), ("unfounded", [2, 0, 1]), values, after)

    def test_a_part_of_a_loop(self):
        self.assert_wrong(loop(3), ("unfounded", [0, 1]), [N, N, N])
        self.assert_wrong(loop(3), ("unfounded", [0]), [N, N, N])
        self.assert_sets(loop(3), ("unfounded", [0]), [N, F, N], [F, F, N])

    def test_a_loop_with_a_way_in(self):
        self.assert_wrong(loop(3, yes(3)), ("unfounded", [0, 1, 2]), [N, N, N, N])
        self.assert_wrong(loop(3, yes(3)), ("unfounded", [0, 1, 2]), [N, N, N, T])
        self.assert_sets(loop(3, yes(3)), ("unfounded", [0, 1, 2]), [N, N, N, F], [F, F, F, F])
        self.assert_wrong(loop(3, no(3)), ("unfounded", [0, 1, 2]), [N, N, N, F])
        self.assert_sets(loop(3, no(3)), ("unfounded", [0, 1, 2]), [N, N, N, T], [F, F, F, T])

    def test_a_choose_may_found_an_atom(self):
        self.assert_wrong([choose(0)], ("unfounded", [0]), [N])
        self.assert_sets([choose(0, yes(0))], ("unfounded", [0]), [N, N], [F, N])

    def test_a_no_condition_does_not_cut_off(self):
        self.assert_wrong([rule(0, no(1))], ("unfounded", [0]), [N, N])
        self.assert_wrong([rule(0, no(0))], ("unfounded", [0]), [N, N])
        self.assert_wrong([rule(0, no(1)), rule(1, yes(1))], ("unfounded", [0, 1]), [N, N])

    def test_a_loop_through_sums(self):
        rules = [rule(0, least(2, (1, (1,), ()), (1, (2,), ()))), rule(1, yes(0))]
        self.assert_sets(rules, ("unfounded", [0, 1]), [N, N, N], [F, F, N])
        self.assert_wrong(rules, ("unfounded", [0]), [N, N, N])
        self.assert_sets(rules, ("unfounded", [0]), [N, N, F], [F, N, F])
        heavy = [rule(0, least(2, (1, (1,), ()), (2, (2,), ()))), rule(1, yes(0))]
        self.assert_wrong(heavy, ("unfounded", [0, 1]), [N, N, N])
        self.assert_sets(heavy, ("unfounded", [0, 1]), [N, N, F], [F, F, F])

    def test_a_row_of_a_no_atom_is_not_cut_off(self):
        rules = [rule(0, least(1, (1, (), (1,)))), rule(1, yes(0))]
        self.assert_wrong(rules, ("unfounded", [0, 1]), [N, N])
        both = [rule(0, least(1, (1, (0,), (1,)))), rule(1, yes(0))]
        self.assert_sets(both, ("unfounded", [0, 1]), [N, N, N], [F, F, N])

    def test_a_below_condition_does_not_cut_off_but_may_fail(self):
        rules = [rule(0, below(1, (1, (0, 1), ())))]
        self.assert_wrong(rules, ("unfounded", [0]), [N, N])
        self.assert_wrong(rules, ("unfounded", [0]), [N, T])
        self.assert_clash(rules, ("unfounded", [0]), [T, T])

    def test_an_atom_with_one_rule_that_is_not_cut_off(self):
        rules = [rule(0, yes(0)), rule(0, yes(1)), rule(2, yes(2))]
        self.assert_wrong(rules, ("unfounded", [0]), [N, N, N])
        self.assert_wrong(rules, ("unfounded", [2, 0]), [N, N, N])
        self.assert_sets(rules, ("unfounded", [2]), [N, N, N], [N, N, F])

    def test_a_true_atom_is_a_clash(self):
        self.assert_clash([], ("unfounded", [0]), [T])
        self.assert_clash(loop(3), ("unfounded", [0, 1, 2]), [N, N, T])

    def test_false_atoms_stay_false(self):
        self.assert_sets([], ("unfounded", [0, 1]), [F, N, N], [F, F, N])
        self.assert_sets([], ("unfounded", [0]), [F, N], [F, N])
        # Also a False atom must be cut off.
        self.assert_wrong([rule(0)], ("unfounded", [0]), [F, N])

    def test_empty_lists_and_atoms_that_occur_twice(self):
        self.assert_wrong([], ("unfounded", []), [N, N])
        self.assert_wrong([], ("unfounded", [0, 0]), [N, N])
        self.assert_wrong([], ("unfounded", [0, 1, 0]), [N, N])
        self.assert_wrong(loop(2), ("unfounded", [0, 1, 1]), [N, N])
        self.assert_wrong([], ("unfounded", []), [])

    def test_indexes_out_of_range(self):
        for atom in (-1, -2, 2, 3, 10 ** 30, -10 ** 30):
            self.assert_wrong([], ("unfounded", [atom]), [N, N])
            self.assert_wrong([], ("unfounded", [0, atom]), [N, N])
            self.assert_wrong([], ("unfounded", [atom, 1]), [T, N])


class Ends(NodeCase):
    def test_a_step_behind_a_clash(self):
        rules = [deny(), rule(0)]
        for step in (("fire", 0), ("fire", 1), ("unfounded", [1]), ("fire", -1)):
            self.assert_node(False, rules, ([("fire", 0), step], None), [N, N])
        self.assert_node(True, rules, ([("fire", 1), ("fire", 0)], None), [N, N])
        self.assert_node(True, rules, ([("fire", 1), ("fire", 1), ("fire", 0)], None), [N, N])

    def test_a_clash_of_another_kind_in_the_middle(self):
        rules = [rule(0), deny()]
        self.assert_node(False, rules, ([("unfounded", [1]), ("fire", 1)], None), [N, T])
        self.assert_node(False, rules, ([("fire", 0), ("fire", 1)], None), [F, N])
        self.assert_node(True, rules, ([("fire", 0)], None), [F, N])

    def test_a_clash_with_an_end(self):
        rules = [deny(), rule(0)]
        good = ([("fire", 0)], None)
        self.assert_node(True, rules, good, [N, N])
        self.assert_node(True, rules, ([], ("split", 1, good, good)), [N, N])
        self.assert_node(False, rules, ([("fire", 0)], ("split", 1, good, good)), [N, N])
        self.assert_node(True, rules, ([("fire", 1)], ("split", 1, good, good)), [N, N])

    def test_no_clash_without_an_end(self):
        self.assert_node(False, [rule(0)], ([], None), [N])
        self.assert_node(False, [rule(0)], ([("fire", 0)], None), [N])
        self.assert_node(False, [], ([], None), [])
        self.assert_node(False, [rule(0)], ([("fire", 0)], None), [T])

    def test_the_assignment_need_not_be_undecided(self):
        rules = [rule(0, yes(1)), deny(yes(0))]
        node = ([("fire", 0), ("fire", 1)], None)
        self.assert_node(True, rules, node, [N, T])
        self.assert_node(False, rules, node, [N, N])
        self.assert_node(False, rules, node, [F, T])
        self.assert_node(True, rules, ([("fire", 0)], None), [F, T])
        self.assert_node(True, rules, node, [T, T])
        self.assert_node(True, rules, ([("fire", 1)], None), [T, N])


class Splits(NodeCase):
    RULES = [rule(0, no(1)), rule(1, no(0)), deny(yes(0)), deny(yes(1))]
    FIRST = ([("fire", 2)], None)
    SECOND = ([("fire", 1), ("fire", 3)], None)

    def split(self, atom, first, second):
        return ([], ("split", atom, first, second))

    def test_right(self):
        self.assert_node(True, self.RULES, self.split(0, self.FIRST, self.SECOND), [N, N])

    def test_the_nodes_are_under_the_two_values(self):
        self.assert_node(False, self.RULES, self.split(0, self.SECOND, self.FIRST), [N, N])
        self.assert_node(True, self.RULES, self.FIRST, [T, N])
        self.assert_node(False, self.RULES, self.FIRST, [F, N])
        self.assert_node(True, self.RULES, self.SECOND, [F, N])
        self.assert_node(False, self.RULES, self.SECOND, [T, N])

    def test_one_node_wrong(self):
        for wrong in (([], None), ([("fire", 1)], None), ([("fire", 9)], None), ([("fire", 3)], None)):
            self.assert_node(False, self.RULES, self.split(0, self.FIRST, wrong), [N, N])
            self.assert_node(False, self.RULES, self.split(0, wrong, self.SECOND), [N, N])
            self.assert_node(False, self.RULES, self.split(0, wrong, wrong), [N, N])

    def test_an_atom_that_is_decided(self):
        for values in ([T, N], [F, N], [T, T], [F, F]):
            self.assert_node(False, self.RULES, self.split(0, self.FIRST, self.SECOND), values)
        rules = [rule(0), deny()]
        good = ([("fire", 1)], None)
        self.assert_node(True, rules, ([], ("split", 0, good, good)), [N])
        self.assert_node(False, rules, ([("fire", 0)], ("split", 0, good, good)), [N])

    def test_an_atom_out_of_range(self):
        good = ([("fire", 0)], None)
        for atom in (-1, -2, 2, 3, 10 ** 30, -10 ** 30):
            self.assert_node(False, [deny()], self.split(atom, good, good), [N, N])
        self.assert_node(False, [deny()], self.split(0, good, good), [])
        self.assert_node(True, [deny()], self.split(1, good, good), [N, N])

    def test_splits_within_splits(self):
        # Under each assignment exactly one deny fires.
        rules = [deny(yes(0), yes(1)), deny(yes(0), no(1)), deny(no(0), yes(1)), deny(no(0), no(1))]
        leaves = [([("fire", number)], None) for number in range(4)]
        inner = [self.split(1, leaves[0], leaves[1]), self.split(1, leaves[2], leaves[3])]
        self.assert_node(True, rules, self.split(0, *inner), [N, N])
        self.assert_node(False, rules, self.split(0, inner[1], inner[0]), [N, N])
        self.assert_node(False, rules, self.split(1, *inner), [N, N])
        outer = [self.split(0, leaves[0], leaves[2]), self.split(0, leaves[1], leaves[3])]
        self.assert_node(True, rules, self.split(1, *outer), [N, N])
        self.assert_node(False, rules, self.split(0, inner[0], self.split(0, leaves[2], leaves[3])), [N, N])
        for place in range(4):
            wrong = leaves[:place] + [([("fire", (place + 1) % 4)], None)] + leaves[place + 1:]
            tree = self.split(0, self.split(1, wrong[0], wrong[1]), self.split(1, wrong[2], wrong[3]))
            self.assert_node(False, rules, tree, [N, N])

    def test_steps_around_a_split_hold_within_it_but_not_beside_it(self):
        rules = [rule(0), deny(yes(0), yes(1)), rule(2, no(1)), deny(yes(2))]
        first, second = ([("fire", 1)], None), ([("fire", 2), ("fire", 3)], None)
        self.assert_node(True, rules, ([("fire", 0)], ("split", 1, first, second)), [N, N, N])
        self.assert_node(False, rules, ([], ("split", 1, first, second)), [N, N, N])
        # What one node of a split sets is not set in the other one.
        rules = [rule(0, yes(1)), deny(yes(0), yes(1)), deny(yes(0))]
        self.assert_node(True, rules, ([("fire", 0), ("fire", 1)], None), [N, T])
        node = self.split(1, ([("fire", 0), ("fire", 1)], None), ([("fire", 2)], None))
        self.assert_node(False, rules, node, [N, N])

    def test_a_wrong_index_in_a_node_that_comes_last(self):
        wrong_steps = [("fire", 4), ("fire", -1), ("block", 4, 0), ("block", 2, 1), ("block", 2, -1), ("only", 2, 0),
                       ("only", -1, 0), ("only", 0, 4), ("only", 0, -1), ("unfounded", [2]), ("unfounded", [-1])]
        for step in wrong_steps:
            self.assert_node(False, self.RULES, self.split(0, ([step], None), self.SECOND), [N, N])
            self.assert_node(False, self.RULES, self.split(0, self.FIRST, ([step], None)), [N, N])
            self.assert_node(False, self.RULES, self.split(0, ([step] + self.FIRST[0], None), self.SECOND), [N, N])
            self.assert_node(False, self.RULES, self.split(0, ([], None), ([step], None)), [N, N])
            # Behind a clash neither a step nor a split can stand.
            self.assert_node(False, [deny()], ([("fire", 0), step], None), [N, N])
            self.assert_node(False, [deny()], ([("fire", 0)], ("split", 0, ([step], None), ([step], None))), [N, N])
            self.assert_node(False, [deny()], ([("fire", 0)], ("split", 9, ([step], None), ([step], None))), [N, N])

    def test_200_splits_within_one_another(self):
        many = 200
        rules = [choose(number) for number in range(many)] + [deny(no(number)) for number in range(many)]
        rules.append(deny(*[yes(number) for number in range(many)]))
        node = ([("fire", 2 * many)], None)
        for number in reversed(range(many)):
            node = self.split(number, node, ([("fire", many + number)], None))
        self.assertIs(none_right(("program", [("a", (one,)) for one in range(many)], rules, []), node), True)
        self.assertIs(node_right(rules, node, [N] * many), True)
        self.assertIs(node_right(rules[:-1] + [deny(no(3))], node, [N] * many), False)
        self.assertIs(node_right(rules, self.split(0, node, node), [N] * many), False)


class Programs(unittest.TestCase):
    def test_the_atoms_of_a_program_may_occur_in_no_rule(self):
        tried = program([deny(yes(1)), deny(no(1))])
        self.assertIs(none_right(tried, ([("unfounded", [3, 1, 0]), ("fire", 1)], None)), True)
        self.assertIs(none_right(tried, ([("unfounded", [4, 1]), ("fire", 1)], None)), False)
        self.assertIs(none_right(tried, ([("block", 0, 0), ("block", 1, 0)], None)), True)

    def test_none_papers_are_for_the_undecided_assignment(self):
        tried = program([rule(0), deny(yes(0))], many=1)
        self.assertIs(none_right(tried, ([("fire", 0), ("fire", 1)], None)), True)
        self.assertIs(none_right(tried, ([("fire", 1)], None)), False)

    def test_no_atoms(self):
        self.assertIs(none_right(program([deny()], many=0), ([("fire", 0)], None)), True)
        self.assertIs(none_right(program([], many=0), ([], None)), False)


class AgainstTheDefinition(unittest.TestCase):
    def draw(self, chooser, turn):
        return definition.random_program(chooser) if turn % 2 else papers.loopy_program(chooser, turn % 3 + 2)

    def test_drawn_nodes_under_drawn_assignments(self):
        chooser = random.Random(21)
        counts = {True: 0, False: 0}
        for turn in range(1500):
            rules = self.draw(chooser, turn)[2]
            many = 4 if turn % 2 else turn % 3 + 2
            values = [chooser.choice([True, False, None, None, None]) for _ in range(many)]
            node = papers.random_node(chooser, rules, values)
            for one in (node, papers.changed_node(chooser, node, rules, many)):
                expected = papers.node_right(rules, one, values)
                counts[expected] += 1
                self.assertIs(node_right(rules, one, values), expected, (rules, one, values))
        self.assertGreater(counts[True], 300)
        self.assertGreater(counts[False], 1000)

    def test_accepted_papers_of_drawn_programs(self):
        chooser = random.Random(22)
        counts = {True: 0, False: 0}
        for turn in range(600):
            tried = self.draw(chooser, turn)
            if turn % 3:
                tried = papers.fully_denied(chooser, tried)
            models = papers.stable_candidates(tried)
            node = papers.random_node(chooser, tried[2], [None] * len(tried[1]), wrong=0.005)
            for one in (node, papers.changed_node(chooser, node, tried[2], len(tried[1]))):
                found = none_right(tried, one)
                self.assertIs(found, papers.none_right(tried, one), (tried, one))
                self.assertFalse(found and models, (tried, one))
                counts[found] += 1
        self.assertGreater(counts[True], 200)
        self.assertGreater(counts[False], 200)

    def test_changed_papers_of_the_search(self):
        chooser = random.Random(23)
        counts = {True: 0, False: 0}
        for turn in range(400):
            tried = papers.fully_denied(chooser, self.draw(chooser, turn))
            node = search(tried)[1]
            for one in papers.all_nodes(node)[:3]:
                values = [chooser.choice([None, None, None, True, False]) for _ in tried[1]]
                self.assertIs(node_right(tried[2], one, values), papers.node_right(tried[2], one, values))
            for _ in range(6):
                changed = papers.changed_node(chooser, node, tried[2], len(tried[1]))
                found = none_right(tried, changed)
                self.assertIs(found, papers.none_right(tried, changed), (tried, changed))
                counts[found] += 1
        self.assertGreater(counts[True], 100)
        self.assertGreater(counts[False], 1000)

    def test_every_single_step_under_every_assignment(self):
        chooser = random.Random(24)
        for turn in range(60):
            many = turn % 2 + 2
            rules = papers.loopy_program(chooser, many)[2]
            values_before = [chooser.choice([True, False, None]) for _ in range(many)]
            for step in papers.all_steps(rules, many):
                for end in (None, ("split", 0, ([step], None), ([step], None))):
                    node = ([step], end)
                    expected = papers.node_right(rules, node, values_before)
                    self.assertIs(node_right(rules, node, values_before), expected, (rules, node, values_before))


class Calls(CallsCase):
    def test_arguments_are_left_alone_and_a_second_call_returns_the_same(self):
        rules = loop(3) + [rule(3, no(0)), deny(yes(3), least(1, (1, (3,), ()))), choose(4, below(1, (1, (4,), ())))]
        tried = program(rules, many=5)
        steps = [("unfounded", [2, 0, 1]), ("fire", 3), ("fire", 4)]
        node = ([], ("split", 4, (list(steps), None), (list(steps), None)))
        for one in (node, (steps, None), (steps[:2], None), (steps, NEVER)):
            self.assert_left_alone(none_right, tried, one)
            self.assert_left_alone(node_right, rules, one, [None] * 5)
            self.assert_left_alone(node_right, rules, one, [False, None, None, True, None])
        self.assertIs(none_right(tried, node), True)


if __name__ == "__main__":
    unittest.main()
