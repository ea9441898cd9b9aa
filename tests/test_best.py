"""Stable candidates of the least cost, best papers, and certain and impossible papers: points 25 and 26."""

import copy
import random
import unittest

import definition
import papers
from shapes import CallsCase, choose, deny, least, loop, no, program, rule, yes
from stablepapers.best import best_candidate, best_right, certain_right, impossible_right
from stablepapers.founded import model_paper, paper_atoms
from stablepapers.parsing import parse
from stablepapers.programs import ground, with_denials
from stablepapers.refuted import none_right
from stablepapers.search import search
from stablepapers.solving import Solver
from stablepapers.stable import cost_of


def solver_of(text):
    statements = parse(text)
    return Solver(statements, ground(statements))


def best_paper(tried, candidate, bound):
    """Return a model paper and a none paper which shows that nothing costs less than a bound, or any none paper."""
    found = search(with_denials(tried, [[least(bound, *tried[3])]]))
    return (model_paper(tried, candidate), found[1] if found[0] == "none" else ([], None))


class BestCase(unittest.TestCase):
    def assert_best(self, solver):
        """Check what is returned, by trying all candidates; return the kind and the least cost."""
        tried = solver.program
        costs = {tuple(one): papers.cost(tried, one) for one in papers.stable_candidates(tried)}
        found = best_candidate(solver)
        self.assertEqual(best_candidate(solver), found)
        if not costs:
            kind, node = found
            self.assertEqual(kind, "none", tried)
            self.assertIs(none_right(tried, node), True, tried)
            self.assertTrue(papers.none_right(tried, node), tried)
            return ("none", None)
        kind, cost, candidate, paper = found
        self.assertEqual((kind, cost), ("best", min(costs.values())), tried)
        self.assertEqual(costs[tuple(candidate)], cost, tried)
        self.assertEqual(paper_atoms(paper[0]), candidate)
        self.assertIs(best_right(tried, paper), True, tried)
        self.assertTrue(papers.best_right(tried, paper), tried)
        return ("best", cost)


class Best(BestCase):
    def assert_cost(self, text, cost):
        self.assertEqual(self.assert_best(solver_of(text)), ("best", cost))

    def test_no_stable_model(self):
        for text in ("a :- not a.", "{a}. :- a. :- not a. minimize {3 : a}.", "a. :- a. minimize {0 : a; 999 : b}."):
            self.assertEqual(self.assert_best(solver_of(text)), ("none", None))
        tried = program([deny()], many=0, costs=[(1, (), ())])
        self.assertEqual(self.assert_best(Solver([], tried)), ("none", None))

    def test_the_paper_without_a_model_is_for_the_program_itself(self):
        solver = solver_of("{a; b}. :- a. :- b. :- not a, not b. minimize {1 : a; 1 : b; 1 : not a}.")
        self.assertEqual(self.assert_best(solver), ("none", None))

    def test_no_cost_rows(self):
        self.assert_cost("a.", 0)
        self.assert_cost("{a; b}. :- a, b.", 0)
        self.assert_cost("a :- not b. b :- not a. minimize {1 : c, 1 = 2}.", 0)
        self.assertEqual(self.assert_best(Solver([], program([], many=0))), ("best", 0))

    def test_the_least_cost(self):
        self.assert_cost("1 {a; b; c} 1. minimize {5 : a; 3 : b; 4 : c}.", 3)
        self.assert_cost("1 {a; b; c} 1. minimize {5 : a; 3 : b; 4 : c}. :- b.", 4)
        self.assert_cost("2 {a; b; c}. minimize {5 : a; 3 : b; 4 : c}.", 7)
        self.assert_cost("{a; b; c}. minimize {5 : a; 3 : b; 4 : c}.", 0)

    def test_several_models_of_the_least_cost(self):
        self.assert_cost("1 {a; b; c} 1. minimize {2 : a; 3 : b; 2 : c}.", 2)
        self.assert_cost("1 {a; b; c} 1. minimize {2 : a; 2 : b; 2 : c}.", 2)
        self.assert_cost("2 {a; b; c; d} 3. minimize {1 : a; 1 : b; 1 : c; 1 : d}.", 2)

    def test_leaving_an_atom_out_may_cost_more(self):
        self.assert_cost("{a; b}. :- a, b. minimize {2 : not a; 1 : b}.", 0)
        self.assert_cost("{a; b}. minimize {2 : not a; 1 : a; 3 : not b; 5 : b}.", 4)
        self.assert_cost("{a; b}. minimize {4 : not a, not b; 3 : a; 2 : b; 9 : not a, b}.", 3)

    def test_equal_cost_rows_count_as_often_as_they_occur(self):
        self.assert_cost("1 {a; b} 1. minimize {2 : a; 2 : a; 3 : b}.", 3)
        self.assert_cost("1 {a; b} 1. minimize {2 : a}. minimize {2 : a}. minimize {3 : b}.", 3)
        self.assert_cost("range 1 3. a. minimize {2 : a, X = X}.", 6)
        self.assert_cost("range 1 3. a. minimize {X : a}.", 6)

    def test_rows_that_always_count(self):
        self.assert_cost("{a}. minimize {7; 2 : a; 1 : not a}.", 8)
        self.assertEqual(self.assert_best(Solver([], program([], many=0, costs=[(3, (), ()), (4, (), ())]))),
                         ("best", 7))

    def test_rows_that_always_count_behind_rows_with_atoms(self):
        # The row (1, (), ()) alone reaches the least bound, whatever has been decided before.
        rules = [rule(0, least(3, (0, (0, 1), (0, 0)), (1, (1,), ()), (1, (), ()))), rule(0, no(1)), rule(0, least(2)),
                 choose(1), rule(0, no(1)), rule(1, yes(1))]
        costs = [(0, (1,), (1,)), (0, (0,), ()), (1, (), ()), (1, (0,), (0,)), (2, (1,), ()), (1, (1, 0), (1, 0)),
                 (1, (), (0,)), (2, (), (1, 0)), (1, (0, 0), (0,)), (0, (), ()), (1, (), (0, 1))]
        for many in range(len(costs) + 1):
            self.assert_best(Solver([], program(rules, many=2, costs=costs[:many])))
            self.assert_best(Solver([], program(rules, many=2, costs=costs[many:])))

    def test_weights_of_0(self):
        self.assert_cost("1 {a; b} 1. minimize {0 : a; 0 : b}.", 0)
        self.assert_cost("1 {a; b} 1. minimize {0 : a; 1 : b}.", 0)

    def test_the_best_tour(self):
        text = """range 1 6. v(1). v(X + 1) :- v(X).
        1 {go(X, Y) : v(Y), X != Y} 1 :- v(X). 1 {go(X, Y) : v(X), X != Y} 1 :- v(Y).
        r(1). r(Y) :- r(X), go(X, Y). :- v(X), not r(X). minimize {(X - Y) * (X - Y) : go(X, Y)}."""
        # Up by the odd numbers and down by the even ones: two ways of length 1 and four of length 2.
        kind, cost, candidate, paper = best_candidate(solver_of(text))
        tried = solver_of(text).program
        self.assertEqual((kind, cost), ("best", 18))
        self.assertEqual(cost_of(tried, candidate), 18)
        self.assertIs(best_right(tried, paper), True)

    def test_against_the_definition(self):
        chooser = random.Random(71)
        kinds = []
        for turn in range(600):
            if turn % 2:
                tried = definition.random_program(chooser)
            else:
                tried = papers.loopy_program(chooser, turn % 4 + 2)
            if turn % 3 == 0:
                more = [row for _ in range(3) for row in definition.random_rows(chooser, len(tried[1]))]
                tried = tried[:3] + (tried[3] + more,)
            if turn % 5 == 0:
                tried = papers.fully_denied(chooser, tried)
            kinds.append(self.assert_best(Solver([], tried)))
        self.assertGreater(kinds.count(("none", None)), 100)
        self.assertGreater(len([one for one in kinds if one[1]]), 100)

    def test_drawn_texts(self):
        chooser = random.Random(72)
        tried = 0
        while tried < 100:
            minimize = "".join(f" minimize {definition.random_members(chooser, ['Y'])}." for _ in range(2))
            solver = solver_of(definition.random_text(chooser) + minimize)
            if len(solver.program[1]) <= 7:
                tried += 1
                self.assert_best(solver)


class BestPapers(unittest.TestCase):
    def assert_paper(self, expected, tried, paper):
        self.assertIs(best_right(tried, paper), expected)
        self.assertIs(papers.best_right(tried, paper), expected)

    def test_a_model_that_is_not_the_best_one(self):
        tried = ground(parse("1 {a; b; c} 1. minimize {5 : a; 3 : b; 4 : c}."))
        self.assert_paper(True, tried, best_paper(tried, [1], 3))
        for bound in range(7):
            for candidate in ([0], [2]):
                self.assert_paper(False, tried, best_paper(tried, candidate, bound))

    def test_each_model_of_the_least_cost(self):
        tried = ground(parse("1 {a; b; c} 1. minimize {2 : a; 3 : b; 2 : c}."))
        last = best_paper(tried, [0], 2)[1]
        for candidate in ([0], [2]):
            self.assert_paper(True, tried, (model_paper(tried, candidate), last))
        self.assert_paper(False, tried, (model_paper(tried, [1]), last))
        self.assert_paper(False, tried, (model_paper(tried, [1]), best_paper(tried, [1], 3)[1]))

    def test_equal_rows_in_the_deny(self):
        tried = ground(parse("1 {a; b} 1. minimize {2 : a; 2 : a; 3 : b}."))
        self.assert_paper(True, tried, best_paper(tried, [1], 3))
        self.assert_paper(False, tried, best_paper(tried, [0], 4))

    def test_a_wrong_model_paper_or_none_paper(self):
        tried = ground(parse("1 {a; b} 1. minimize {2 : a; 3 : b}."))
        first, last = best_paper(tried, [0], 2)
        self.assert_paper(True, tried, (first, last))
        for wrong in ([], first + first, [(1, 0)], [(0, 1)], [(0, 9)], [(-2, 0)], [(0, 0), (1, 1)]):
            self.assert_paper(False, tried, (wrong, last))
        for wrong in (([], None), (last[0][:-1], last[1]), ([("fire", 0)], None), ([("fire", 4)], None)):
            self.assert_paper(wrong == last, tried, (first, wrong))

    def test_no_cost_rows(self):
        tried = program([rule(0)], many=1)
        self.assert_paper(True, tried, ([(0, 0)], ([("fire", 1)], None)))
        self.assert_paper(False, tried, ([(0, 0)], ([("fire", 0)], None)))
        self.assert_paper(False, tried, ([(0, 0)], ([("fire", 2)], None)))
        self.assert_paper(False, tried, ([], ([("fire", 1)], None)))

    def test_changed_papers(self):
        chooser = random.Random(73)
        counts = {True: 0, False: 0}
        for turn in range(300):
            tried = papers.loopy_program(chooser, turn % 3 + 2)
            models = papers.stable_candidates(tried)
            if not models:
                continue
            _, cost, _, paper = best_candidate(Solver([], tried))
            for _ in range(4):
                one = chooser.choice(models)
                first = chooser.choice([model_paper(tried, one), papers.changed_paper(chooser, paper[0], tried)])
                rules = with_denials(tried, [[least(cost, *tried[3])]])[2]
                last = chooser.choice([paper[1], papers.changed_node(chooser, paper[1], rules, len(tried[1]))])
                expected = papers.best_right(tried, (first, last))
                counts[expected] += 1
                self.assert_paper(expected, tried, (first, last))
        self.assertGreater(counts[True], 150)
        self.assertGreater(counts[False], 150)


class CertainAndImpossible(unittest.TestCase):
    def assert_both(self, expected, function, own, tried, atom, paper):
        self.assertIs(function(tried, atom, paper), expected, (tried, atom, paper))
        self.assertIs(papers.none_right(papers.denied(tried, [[(own, atom)]]), paper), expected)

    def assert_certain(self, expected, tried, atom, paper):
        self.assert_both(expected, certain_right, "yes", tried, atom, paper)

    def assert_impossible(self, expected, tried, atom, paper):
        self.assert_both(expected, impossible_right, "no", tried, atom, paper)

    def test_a_fact_and_an_atom_without_rules(self):
        tried = program([rule(0), rule(1, yes(2))], many=3)
        last = ("fire", 2)
        fact = ([("fire", 0), last], None)
        self.assert_certain(True, tried, 0, fact)
        self.assert_impossible(False, tried, 0, fact)
        for atom in (1, 2):
            nothing = ([("unfounded", [1, 2]), last], None)
            self.assert_impossible(True, tried, atom, nothing)
            self.assert_certain(False, tried, atom, nothing)
            self.assert_certain(False, tried, atom, fact)
            self.assert_impossible(False, tried, atom, fact)

    def test_papers_for_another_atom(self):
        tried = ground(parse("a. b :- a. {c}. d :- e. e :- d."))
        certain = {atom: search(with_denials(tried, [[yes(atom)]])) for atom in range(5)}
        impossible = {atom: search(with_denials(tried, [[no(atom)]])) for atom in range(5)}
        self.assertEqual([certain[atom][0] for atom in range(5)], ["none", "none", "model", "model", "model"])
        self.assertEqual([impossible[atom][0] for atom in range(5)], ["model", "model", "model", "none", "none"])
        for atom in (0, 1):
            self.assert_certain(True, tried, atom, certain[atom][1])
            self.assert_certain(False, tried, 2, certain[atom][1])
            self.assert_certain(False, tried, 3, certain[atom][1])
            self.assert_impossible(False, tried, atom, certain[atom][1])
        for atom in (3, 4):
            self.assert_impossible(True, tried, atom, impossible[atom][1])
            self.assert_impossible(False, tried, 0, impossible[atom][1])
            self.assert_impossible(False, tried, 2, impossible[atom][1])
            self.assert_certain(False, tried, atom, impossible[atom][1])

    def test_without_stable_models_each_atom_is_both(self):
        tried = program([rule(0, no(0)), choose(1)], many=3)
        node = search(tried)[1]
        for atom in range(3):
            self.assert_certain(True, tried, atom, node)
            self.assert_impossible(True, tried, atom, node)

    def test_against_the_definition(self):
        chooser = random.Random(74)
        counts = {True: 0, False: 0}
        for turn in range(250):
            many = turn % 3 + 2
            tried = papers.loopy_program(chooser, many)
            models = papers.stable_candidates(tried)
            for atom in range(many):
                for own, function in (("yes", certain_right), ("no", impossible_right)):
                    denied = papers.denied(tried, [[(own, atom)]])
                    kind, found = search(denied)
                    holds = all((atom in one) == (own == "yes") for one in models)
                    self.assertEqual(kind, "none" if holds else "model")
                    if holds:
                        self.assert_both(True, function, own, tried, atom, found)
                        found = papers.changed_node(chooser, found, denied[2], many)
                    else:
                        found = papers.random_node(chooser, denied[2], [None] * many)
                    expected = papers.none_right(denied, found)
                    self.assertFalse(expected and not holds)
                    counts[expected] += 1
                    self.assert_both(expected, function, own, tried, atom, found)
        self.assertGreater(counts[True], 20)
        self.assertGreater(counts[False], 200)


class Calls(CallsCase):
    def test_arguments_are_left_alone_and_a_second_call_returns_the_same(self):
        rules = loop(2, yes(2)) + [choose(2), choose(3), deny(no(3), no(0))]
        tried = program(rules, costs=[(2, (1,), ()), (3, (3,), ())])
        kept = copy.deepcopy(tried)
        solver = Solver([], tried)
        found = best_candidate(solver)
        self.assertEqual(found[:3], ("best", 2, [0, 1, 2]))
        self.assertEqual(tried, kept)
        self.assertEqual(best_candidate(solver), found)
        self.assert_left_alone(best_right, tried, found[3])
        self.assert_left_alone(certain_right, tried, 2, found[3][1])
        self.assert_left_alone(impossible_right, tried, 2, found[3][1])

    def test_an_earlier_call_makes_no_difference(self):
        solver = solver_of("1 {a; b; c} 2. minimize {5 : a; 3 : b; 4 : c}.")
        found = best_candidate(solver)
        solver.solve([[yes(1)]])
        self.assertEqual(best_candidate(solver), found)
        found[2].append(9)
        found[3][0].append((9, 9))
        self.assertEqual(best_candidate(solver)[2], [1])


if __name__ == "__main__":
    unittest.main()
