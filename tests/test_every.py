"""All stable candidates, and list papers: point 24."""

import copy
import random
import unittest

import definition
import papers
from shapes import CallsCase, choose, deny, loop, no, program, rule, yes
from stablepapers.every import all_candidates, exclusion, list_right
from stablepapers.founded import model_right, paper_atoms
from stablepapers.parsing import parse
from stablepapers.programs import ground, with_denials
from stablepapers.refuted import none_right
from stablepapers.search import search
from stablepapers.solving import Solver
from stablepapers.stable import is_stable


def solver_of(text):
    statements = parse(text)
    return Solver(statements, ground(statements))


class Exclusions(CallsCase):
    def test_bodies(self):
        self.assertEqual(exclusion(program([], many=3), []), [no(0), no(1), no(2)])
        self.assertEqual(exclusion(program([], many=3), [0, 1, 2]), [yes(0), yes(1), yes(2)])
        self.assertEqual(exclusion(program([], many=3), [1]), [no(0), yes(1), no(2)])
        self.assertEqual(exclusion(program([], many=4), [0, 3]), [yes(0), no(1), no(2), yes(3)])
        self.assertEqual(exclusion(program([], many=0), []), [])

    def test_a_body_holds_in_its_candidate_alone(self):
        tried = program([choose(0), rule(1, yes(0)), deny(yes(2))])
        candidates = definition.subsets(range(4))
        for one in candidates:
            body = self.assert_left_alone(exclusion, tried, one)
            self.assertEqual([other for other in candidates if papers.holds(body, other)], [one])


class EveryCase(unittest.TestCase):
    def assert_all(self, solver, limit, models):
        """Check what is returned for a limit, where `models` has all stable candidates."""
        found = all_candidates(solver, limit)
        kind, candidates, paper = found
        if len(models) <= limit:
            self.assertEqual(kind, "all")
            self.assertEqual(sorted(candidates), sorted(models))
            self.assertEqual([paper_atoms(one) for one in paper[0]], candidates)
            self.assertIs(list_right(solver.program, paper), True)
            self.assertTrue(papers.list_right(solver.program, paper))
        else:
            self.assertEqual(kind, "more")
            self.assertEqual(len(candidates), limit + 1)
            self.assertEqual(len({tuple(one) for one in candidates}), limit + 1)
            self.assertEqual([paper_atoms(one) for one in paper], candidates)
            for one in paper:
                self.assertTrue(papers.model_right(solver.program, one))
                self.assertIn(paper_atoms(one), models)
        self.assertEqual(all_candidates(solver, limit), found)

    def assert_all_limits(self, solver):
        models = papers.stable_candidates(solver.program)
        for limit in range(len(models) + 2):
            self.assert_all(solver, limit, models)
        return len(models)


class Candidates(EveryCase):
    def test_no_stable_model(self):
        solvers = [solver_of(text) for text in ("a :- not a.", "{a}. :- a. :- not a.", "a. :- a.", ":- 1 = 1.")]
        for solver in solvers + [Solver([], program([deny()], many=0))]:
            for limit in (0, 1, 64):
                kind, candidates, paper = all_candidates(solver, limit)
                self.assertEqual((kind, candidates, paper[0]), ("all", [], []))
                self.assertIs(none_right(solver.program, paper[1]), True)
                self.assertIs(list_right(solver.program, paper), True)

    def test_one_stable_model(self):
        solver = solver_of("a. b :- a, not c.")
        self.assertEqual(all_candidates(solver, 0), ("more", [[0, 1]], [[(0, 0), (1, 1)]]))
        for limit in (1, 2, 64):
            self.assert_all(solver, limit, [[0, 1]])

    def test_no_atoms(self):
        solver = Solver([], program([], many=0))
        self.assertEqual(all_candidates(solver, 0), ("more", [[]], [[]]))
        self.assertEqual(all_candidates(solver, 1), ("all", [[]], ([[]], ([("fire", 0)], None))))

    def test_several_stable_models(self):
        self.assertEqual(self.assert_all_limits(solver_of("{a; b; c}.")), 8)
        self.assertEqual(self.assert_all_limits(solver_of("1 {a; b; c} 2. :- a, not b.")), 4)
        self.assertEqual(self.assert_all_limits(solver_of("a :- not b. b :- not a. {c} :- a. d :- d.")), 3)

    def test_the_limit_may_be_the_greatest_one(self):
        solver = solver_of("{a; b; c; d; e; f}.")
        models = definition.subsets(range(6))
        self.assert_all(solver, 64, models)
        self.assert_all(solver, 63, models)
        solver = solver_of("{a; b; c; d; e; f; g}. :- g, b. :- g, c. :- g, d. :- g, e. :- g, f. :- g, a.")
        models = models + [[6]]
        self.assert_all(solver, 64, models)
        self.assert_all(solver, 65, models)

    def test_many_more_than_the_limit(self):
        solver = solver_of("range 1 9. {p(X, Y) : X != Y}.")
        kind, candidates, found = all_candidates(solver, 64)
        self.assertEqual((kind, len(candidates), len({tuple(one) for one in candidates})), ("more", 65, 65))
        for candidate, paper in zip(candidates, found, strict=True):
            self.assertEqual(paper_atoms(paper), candidate)
            self.assertIs(model_right(solver.program, paper), True)
            self.assertIs(is_stable(solver.program, candidate), True)

    def test_nothing_is_left_from_an_earlier_call(self):
        solver = solver_of("1 {a; b; c} 1.")
        expected = all_candidates(solver, 3)
        all_candidates(solver, 0)
        solver.solve([[yes(0)]])
        all_candidates(solver, 1)
        self.assertEqual(all_candidates(solver, 3), expected)


class Papers(unittest.TestCase):
    def setUp(self):
        self.solver = solver_of("1 {a; b; c} 1. d :- a. d :- b.")
        self.program = self.solver.program
        _, self.candidates, (self.papers, self.last) = all_candidates(self.solver, 3)

    def assert_list(self, expected, models, last):
        self.assertIs(list_right(self.program, (models, last)), expected)
        self.assertIs(papers.list_right(self.program, (models, last)), expected)

    def test_right(self):
        self.assertEqual(sorted(self.candidates), [[0, 3], [1, 3], [2]])
        self.assert_list(True, self.papers, self.last)

    def test_a_paper_left_out(self):
        for place in range(3):
            self.assert_list(False, self.papers[:place] + self.papers[place + 1:], self.last)
        self.assert_list(False, [], self.last)

    def test_a_paper_repeated(self):
        for place in range(3):
            for one in self.papers:
                self.assert_list(False, self.papers[:place] + [one] + self.papers[place:], self.last)

    def test_the_same_candidate_by_two_papers(self):
        # b and a may be derived in both orders.
        tried = program([rule(0), rule(1), deny(yes(0), no(1))], many=2)
        last = search(with_denials(tried, [[yes(0), yes(1)]]))[1]
        one, two = [(0, 0), (1, 1)], [(1, 1), (0, 0)]
        self.assertIs(list_right(tried, ([one], last)), True)
        self.assertIs(list_right(tried, ([two], last)), True)
        self.assertIs(list_right(tried, ([one, two], last)), False)

    def test_a_paper_exchanged_with_another_one(self):
        # The denies come in the order of the papers, so that the steps of the none paper have other indexes.
        refused = 0
        for first, second in ((0, 1), (0, 2), (1, 2)):
            changed = list(self.papers)
            changed[first], changed[second] = changed[second], changed[first]
            expected = papers.list_right(self.program, (changed, self.last))
            self.assert_list(expected, changed, self.last)
            refused += not expected
            bodies = [exclusion(self.program, paper_atoms(one)) for one in changed]
            self.assert_list(True, changed, search(with_denials(self.program, bodies))[1])
        self.assertGreater(refused, 0)

    def test_another_none_paper(self):
        self.assert_list(False, self.papers, ([], None))
        self.assert_list(False, self.papers, (self.last[0] + [("fire", 99)], self.last[1]))
        self.assert_list(False, self.papers, search(program([deny()]))[1])
        bodies = [exclusion(self.program, one) for one in self.candidates]
        # This paper fires a deny that the program does not have.
        self.assert_list(False, self.papers, search(with_denials(self.program, bodies + [[]]))[1])
        own = papers.random_node(random.Random(1), with_denials(self.program, bodies)[2], [None] * 4, wrong=0)
        self.assert_list(True, self.papers, own)

    def test_wrong_model_papers(self):
        for wrong in ([], [(0, 0)], [(3, 3), (0, 0)], self.papers[0][::-1], self.papers[0] + [(9, 9)], [(-1, -1)]):
            for place in range(3):
                self.assert_list(False, self.papers[:place] + [wrong] + self.papers[place + 1:], self.last)

    def test_the_list_of_a_program_without_models(self):
        self.program = program([rule(0, no(0))], many=1)
        node = search(self.program)[1]
        self.assert_list(True, [], node)
        self.assert_list(False, [], ([], None))
        self.assert_list(False, [[(0, 0)]], node)
        self.assert_list(False, [[]], node)


class AgainstTheDefinition(EveryCase):
    def test_all_limits_on_drawn_programs(self):
        chooser = random.Random(61)
        several = 0
        for turn in range(300):
            tried = definition.random_program(chooser) if turn % 2 else papers.loopy_program(chooser, turn % 3 + 3)
            several += self.assert_all_limits(Solver([], tried)) > 1
        self.assertGreater(several, 60)

    def test_drawn_texts(self):
        chooser = random.Random(62)
        tried = 0
        while tried < 100:
            solver = solver_of(definition.random_text(chooser))
            if len(solver.program[1]) <= 6:
                tried += 1
                self.assert_all_limits(solver)

    def test_changed_list_papers(self):
        chooser = random.Random(63)
        counts = {True: 0, False: 0}
        for turn in range(250):
            tried = papers.loopy_program(chooser, turn % 3 + 2)
            _, _, (models, last) = all_candidates(Solver([], tried), 64)
            bodies = [exclusion(tried, paper_atoms(one)) for one in models]
            rules = with_denials(tried, bodies)[2]
            for _ in range(4):
                changed = list(models)
                other = last
                kind = chooser.choice(["none", "paper", "out", "swap"])
                if kind == "none" or not models:
                    other = papers.changed_node(chooser, last, rules, len(tried[1]))
                elif kind == "paper":
                    place = chooser.randrange(len(models))
                    changed[place] = papers.changed_paper(chooser, changed[place], tried)
                elif kind == "out":
                    del changed[chooser.randrange(len(models))]
                else:
                    chooser.shuffle(changed)
                expected = papers.list_right(tried, (changed, other))
                counts[expected] += 1
                self.assertIs(list_right(tried, (changed, other)), expected, (tried, changed, other))
        self.assertGreater(counts[True], 100)
        self.assertGreater(counts[False], 200)


class Calls(CallsCase):
    def test_arguments_are_left_alone_and_a_second_call_returns_the_same(self):
        tried = program(loop(2, yes(2)) + [choose(2), choose(3), deny(yes(3), yes(0))], costs=[(2, (1,), ())])
        kept = copy.deepcopy(tried)
        solver = Solver([], tried)
        for limit in range(5):
            found = all_candidates(solver, limit)
            self.assertEqual(tried, kept)
            self.assertEqual(all_candidates(solver, limit), found)
        self.assert_left_alone(list_right, tried, found[2])
        self.assertIs(solver.program, tried)

    def test_what_is_returned_can_be_changed(self):
        tried = program([choose(0), choose(1)], many=2)
        solver = Solver([], tried)
        for limit in (1, 4):
            expected = all_candidates(solver, limit)
            _, candidates, paper = all_candidates(solver, limit)
            for one in candidates:
                one.append(77)
            for one in paper if limit == 1 else paper[0]:
                one.append((7, 7))
            if limit == 4:
                paper[1][0].append(("fire", 9))
            self.assertEqual(all_candidates(solver, limit), expected)
            self.assertEqual(tried, program([choose(0), choose(1)], many=2))


if __name__ == "__main__":
    unittest.main()
