"""Model papers: point 18."""

import random
import unittest

import definition
import papers
from shapes import CallsCase, below, chain, choose, deny, least, loop, no, program, rule, yes
from stablepapers.founded import model_paper, model_right, paper_atoms
from stablepapers.parsing import parse
from stablepapers.programs import ground
from stablepapers.stable import is_stable

# a; b :- a; {c} :- b; :- d. Its papers are [(0, 0), (1, 1)] and this one with (2, 2) behind it.
RULES = [rule(0), rule(1, yes(0)), choose(2, yes(1)), deny(yes(3))]


class PaperCase(unittest.TestCase):
    def assert_right(self, rules, paper, many=4):
        self.assertIs(model_right(program(rules, many), paper), True)
        self.assertTrue(papers.model_right(program(rules, many), paper))

    def assert_wrong(self, rules, paper, many=4):
        self.assertIs(model_right(program(rules, many), paper), False)
        self.assertFalse(papers.model_right(program(rules, many), paper))

    def assert_has_paper(self, tried, candidate):
        paper = model_paper(tried, candidate)
        self.assertEqual(paper_atoms(paper), candidate)
        self.assertIs(model_right(tried, paper), True)
        self.assertTrue(papers.model_right(tried, paper))


class Examples(unittest.TestCase):
    def test_of_the_interface(self):
        tried = ground(parse("a :- not b. c :- a."))
        self.assertEqual(model_paper(tried, [0, 2]), [(0, 0), (2, 1)])
        self.assertIs(model_right(tried, [(2, 1), (0, 0)]), False)
        self.assertIs(model_right(tried, [(0, 0), (2, 1)]), True)


class Atoms(unittest.TestCase):
    def test_the_atoms_are_ascending_with_duplicates(self):
        self.assertEqual(paper_atoms([]), [])
        self.assertEqual(paper_atoms([(3, 0), (1, 9), (2, 2)]), [1, 2, 3])
        self.assertEqual(paper_atoms([(5, 0), (0, 0), (5, 1), (5, 0)]), [0, 5, 5, 5])
        self.assertEqual(paper_atoms([(10 ** 20, 1), (-1, -7)]), [-1, 10 ** 20])


class Pairs(PaperCase):
    def test_right_papers(self):
        self.assert_right(RULES, [(0, 0), (1, 1)])
        self.assert_right(RULES, [(0, 0), (1, 1), (2, 2)])

    def test_a_pair_left_out(self):
        self.assert_wrong(RULES, [])
        self.assert_wrong(RULES, [(0, 0)])
        self.assert_wrong(RULES, [(1, 1)])
        self.assert_wrong(RULES, [(0, 0), (2, 2)])
        self.assert_wrong(RULES, [(1, 1), (2, 2)])

    def test_a_pair_moved(self):
        self.assert_wrong(RULES, [(1, 1), (0, 0)])
        self.assert_wrong(RULES, [(0, 0), (2, 2), (1, 1)])
        self.assert_wrong(RULES, [(2, 2), (0, 0), (1, 1)])

    def test_the_order_is_free_where_nothing_rests_on_it(self):
        self.assert_right([rule(0), rule(1)], [(0, 0), (1, 1)])
        self.assert_right([rule(0), rule(1)], [(1, 1), (0, 0)])

    def test_a_pair_repeated(self):
        self.assert_wrong(RULES, [(0, 0), (0, 0), (1, 1)])
        self.assert_wrong(RULES, [(0, 0), (1, 1), (1, 1)])
        self.assert_wrong(RULES, [(0, 0), (1, 1), (0, 0)])
        self.assert_wrong([rule(0), rule(0)], [(0, 0), (0, 1)])

    def test_each_of_two_rules_will_do(self):
        self.assert_right([rule(0), rule(0)], [(0, 0)])
        self.assert_right([rule(0), rule(0)], [(0, 1)])

    def test_another_atom(self):
        self.assert_wrong(RULES, [(0, 0), (1, 1), (3, 2)])
        self.assert_wrong(RULES, [(0, 0), (2, 1)])
        self.assert_wrong(RULES, [(1, 0), (0, 1)])

    def test_another_rule(self):
        self.assert_wrong(RULES, [(0, 1), (1, 1)])
        self.assert_wrong(RULES, [(0, 0), (1, 0)])
        self.assert_wrong(RULES, [(0, 0), (1, 2)])
        self.assert_wrong(RULES, [(0, 0), (1, 1), (2, 1)])

    def test_the_rule_is_a_deny(self):
        self.assert_wrong(RULES, [(0, 0), (1, 3)])
        self.assert_wrong(RULES, [(0, 0), (1, 1), (3, 3)])
        self.assert_wrong([deny(yes(1)), deny(no(0), yes(0))], [(0, 1)])

    def test_indexes_out_of_range(self):
        for atom in (-1, -4, 4, 5, 10 ** 30, -10 ** 30):
            self.assert_wrong(RULES, [(0, 0), (1, 1), (atom, 2)])
            self.assert_wrong(RULES, [(atom, 0), (1, 1)])
        for number in (-1, -3, -4, 4, 10 ** 30, -10 ** 30):
            self.assert_wrong(RULES, [(0, number), (1, 1)])
            self.assert_wrong(RULES, [(0, 0), (1, number)])
        self.assert_wrong(RULES, [(-4, 0), (-3, 1)])

    def test_negative_indexes_do_not_count_from_the_end(self):
        self.assert_wrong([rule(0)], [(0, -1)], many=1)
        self.assert_wrong([rule(0)], [(-1, 0)], many=1)

    def test_the_empty_paper(self):
        self.assert_right([], [])
        self.assert_right([], [], many=0)
        self.assert_right([choose(0), rule(1, yes(0)), deny(yes(2))], [])
        self.assert_wrong([rule(0)], [])
        self.assert_wrong([deny()], [], many=0)
        self.assert_wrong([deny(no(0))], [])

    def test_an_atom_that_occurs_in_no_rule(self):
        self.assert_wrong([rule(0)], [(0, 0), (3, 0)])
        self.assert_right([rule(0)], [(0, 0)])


class Bodies(PaperCase):
    def test_yes_atoms_must_be_earlier(self):
        rules = [rule(0, yes(1), yes(2)), rule(1), rule(2)]
        self.assert_right(rules, [(1, 1), (2, 2), (0, 0)])
        self.assert_right(rules, [(2, 2), (1, 1), (0, 0)])
        self.assert_wrong(rules, [(1, 1), (0, 0), (2, 2)])
        self.assert_wrong(rules, [(2, 2), (0, 0), (1, 1)])

    def test_an_atom_does_not_support_itself(self):
        self.assert_wrong([rule(0, yes(0))], [(0, 0)])
        self.assert_wrong([choose(0, yes(0))], [(0, 0)])
        self.assert_wrong([rule(0, yes(1)), rule(1, yes(0))], [(0, 0), (1, 1)])
        self.assert_wrong([rule(0, least(1, (1, (0,), ())))], [(0, 0)])

    def test_a_no_condition_looks_at_the_candidate(self):
        self.assert_right([choose(0, no(1)), choose(1)], [(0, 0)])
        # Also an atom that comes later is in the candidate.
        self.assert_wrong([choose(0, no(1)), choose(1)], [(0, 0), (1, 1)])
        self.assert_wrong([choose(0, no(1)), choose(1)], [(1, 1), (0, 0)])
        self.assert_wrong([choose(0, no(0))], [(0, 0)])

    def test_a_below_condition_looks_at_the_candidate(self):
        rules = [choose(0, below(2, (1, (1,), ()), (1, (2,), ()))), choose(1), choose(2)]
        self.assert_right(rules, [(0, 0)])
        self.assert_right(rules, [(0, 0), (1, 1)])
        self.assert_right(rules, [(1, 1), (0, 0)])
        self.assert_right(rules, [(2, 2), (0, 0)])
        self.assert_wrong(rules, [(0, 0), (1, 1), (2, 2)])
        self.assert_wrong(rules, [(1, 1), (0, 0), (2, 2)])
        self.assert_right(rules, [(1, 1), (2, 2)])

    def test_a_least_condition_has_its_yes_atoms_among_the_earlier_ones(self):
        rules = [choose(0, least(2, (1, (1,), ()), (1, (2,), ()))), choose(1), choose(2)]
        self.assert_right(rules, [(1, 1), (2, 2), (0, 0)])
        self.assert_right(rules, [(2, 2), (1, 1), (0, 0)])
        self.assert_wrong(rules, [(1, 1), (0, 0), (2, 2)])
        self.assert_wrong(rules, [(0, 0), (1, 1), (2, 2)])
        self.assert_wrong(rules, [(1, 1), (0, 0)])

    def test_a_least_condition_has_its_no_atoms_outside_of_the_candidate(self):
        rules = [choose(0, least(1, (1, (), (1,)))), choose(1)]
        self.assert_right(rules, [(0, 0)])
        self.assert_wrong(rules, [(0, 0), (1, 1)])
        self.assert_wrong(rules, [(1, 1), (0, 0)])
        mixed = [choose(0, least(3, (3, (1,), (2,)), (2, (3,), ()))), choose(1), choose(2), choose(3)]
        self.assert_right(mixed, [(1, 1), (0, 0)])
        self.assert_wrong(mixed, [(1, 1), (0, 0), (2, 2)])
        self.assert_wrong(mixed, [(3, 3), (0, 0)])
        self.assert_right(mixed, [(3, 3), (1, 1), (0, 0)])

    def test_a_least_condition_that_asks_for_nothing(self):
        self.assert_right([choose(0, least(0))], [(0, 0)])
        self.assert_right([choose(0, least(-2, (1, (1,), ())))], [(0, 0)])
        self.assert_wrong([choose(0, least(1))], [(0, 0)])

    def test_conditions_in_any_order(self):
        rules = [rule(0, least(1, (1, (2,), ())), no(3), yes(1), below(1, (1, (3,), ()))), rule(1), rule(2)]
        self.assert_right(rules, [(1, 1), (2, 2), (0, 0)])
        self.assert_wrong(rules, [(1, 1), (0, 0), (2, 2)])
        self.assert_wrong(rules, [(2, 2), (0, 0), (1, 1)])


class Kept(PaperCase):
    def test_a_rule_whose_head_is_missing(self):
        self.assert_wrong([rule(0), rule(1)], [(0, 0)])
        self.assert_wrong([rule(0), rule(1, yes(0), no(2))], [(0, 0)])
        self.assert_right([rule(0), rule(1, yes(0), yes(2))], [(0, 0)])
        self.assert_right([rule(0), rule(1, no(0))], [(0, 0)])
        self.assert_wrong([rule(0), rule(1, least(1, (1, (0,), ())))], [(0, 0)])
        self.assert_right([rule(0), rule(1, least(2, (1, (0,), ())))], [(0, 0)])

    def test_the_head_may_stand_there_by_another_rule(self):
        self.assert_right([rule(0), rule(1, yes(0)), choose(1)], [(0, 0), (1, 2)])
        self.assert_right([rule(0), rule(1, yes(0)), choose(1)], [(1, 2), (0, 0)])

    def test_a_deny_whose_body_holds(self):
        self.assert_wrong([rule(0), deny(yes(0))], [(0, 0)])
        self.assert_wrong([rule(0), deny()], [(0, 0)])
        self.assert_wrong([rule(0), deny(yes(0), no(1), below(1, (1, (2,), ())))], [(0, 0)])
        self.assert_right([rule(0), deny(yes(0), yes(1))], [(0, 0)])
        self.assert_right([rule(0), deny(yes(0), no(0))], [(0, 0)])
        self.assert_wrong([rule(0), rule(1), deny(yes(1), yes(0))], [(0, 0), (1, 1)])

    def test_a_choose_whose_head_is_missing(self):
        self.assert_right([rule(0), choose(1), choose(2, yes(0))], [(0, 0)])

    def test_the_rule_with_the_missing_head_may_be_the_last_one(self):
        many = [rule(number) for number in range(6)]
        self.assert_wrong(many, [(number, number) for number in range(5)], many=6)
        self.assert_right(many, [(number, number) for number in range(6)], many=6)


class Returned(PaperCase):
    def test_a_loop_entered_by_one_atom(self):
        tried = program(loop(4, no(4)), many=5)
        self.assert_has_paper(tried, [0, 1, 2, 3])

    def test_a_loop_through_sums(self):
        rules = [rule(0, least(2, (1, (1,), ()), (1, (2,), ()))), rule(1, yes(0)), rule(2, yes(0))]
        rules += [choose(1), choose(2)]
        for candidate in ([], [1], [2], [0, 1, 2]):
            self.assert_has_paper(program(rules), candidate)

    def test_no_atom(self):
        self.assertEqual(model_paper(program([choose(0)]), []), [])
        self.assertEqual(model_paper(program([], many=0), []), [])

    def test_a_long_chain(self):
        kind, atoms, rules, costs = chain(90)
        self.assert_has_paper((kind, atoms, rules, costs), list(range(90)))
        self.assert_has_paper((kind, atoms, rules[::-1], costs), list(range(90)))
        self.assertEqual(model_paper((kind, atoms, rules, costs), list(range(90))), [(one, one) for one in range(90)])

    def test_a_long_chain_that_is_wrong_at_one_place(self):
        tried = chain(90)
        paper = [(number, number) for number in range(90)]
        self.assertIs(model_right(tried, paper), True)
        for place in (0, 1, 44, 88, 89):
            self.assertIs(model_right(tried, paper[:place] + paper[place + 1:]), False)
        for place in (0, 1, 44, 88):
            exchanged = paper[:place] + [paper[place + 1], paper[place]] + paper[place + 2:]
            self.assertIs(model_right(tried, exchanged), False)

    def test_a_long_chain_through_sums(self):
        rules = [choose(0)] + [rule(number, least(1, (1, (number - 1,), ()))) for number in range(1, 90)]
        tried = ("program", [("a", (number,)) for number in range(90)], rules[::-1], [])
        self.assert_has_paper(tried, list(range(90)))
        self.assert_has_paper(tried, [])


class AgainstTheDefinition(PaperCase):
    def assert_same(self, tried, paper):
        found = model_right(tried, paper)
        self.assertIs(found, papers.model_right(tried, paper), (tried, paper))
        # An accepted paper has a stable candidate.
        self.assertTrue(not found or is_stable(tried, paper_atoms(paper)), (tried, paper))
        return found

    def test_every_stable_candidate_has_a_paper(self):
        chooser = random.Random(18)
        seen = 0
        for turn in range(1200):
            tried = definition.random_program(chooser) if turn % 2 else papers.loopy_program(chooser, turn % 4 + 2)
            for candidate in papers.stable_candidates(tried):
                seen += 1
                self.assert_has_paper(tried, candidate)
        self.assertGreater(seen, 1000)

    def test_papers_with_changes(self):
        chooser = random.Random(19)
        accepted, refused = 0, 0
        for turn in range(700):
            tried = definition.random_program(chooser) if turn % 2 else papers.loopy_program(chooser, turn % 4 + 2)
            for candidate in papers.stable_candidates(tried):
                paper = model_paper(tried, candidate)
                for _ in range(4):
                    changed = papers.changed_paper(chooser, paper, tried)
                    if self.assert_same(tried, changed):
                        accepted += 1
                    else:
                        refused += 1
        self.assertGreater(accepted, 100)
        self.assertGreater(refused, 1000)

    def test_drawn_papers(self):
        chooser = random.Random(20)
        accepted = 0
        for _ in range(2000):
            tried = papers.loopy_program(chooser, 3)
            pairs = [(atom, number) for number, (kind, atom, _) in enumerate(tried[2]) if kind != "deny"]
            paper = chooser.sample(pairs, min(len(pairs), chooser.randint(0, 4)))
            accepted += self.assert_same(tried, paper)
        self.assertGreater(accepted, 50)


class Calls(CallsCase):
    def test_arguments_are_left_alone_and_a_second_call_returns_the_same(self):
        rules = RULES + [rule(4, least(1, (1, (0,), (3,))), below(3, (1, (1,), ())))]
        tried = program(rules, many=5, costs=[(3, (0,), ())])
        for candidate in ([0, 1, 4], [0, 1, 2, 4]):
            paper = self.assert_left_alone(model_paper, tried, candidate)
            self.assert_left_alone(model_right, tried, paper)
            self.assert_left_alone(model_right, tried, paper[::-1])
            self.assert_left_alone(paper_atoms, paper[::-1])


if __name__ == "__main__":
    unittest.main()
