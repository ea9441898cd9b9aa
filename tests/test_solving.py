"""The class Solver: points 20, 22 and 23."""

import copy
import random
import unittest

import definition
import papers
from shapes import CallsCase, below, least, no, yes
from stablepapers.parsing import parse
from stablepapers.plain import plain_rules
from stablepapers.possible import matching
from stablepapers.programs import ground, with_denials
from stablepapers.refuted import none_right
from stablepapers.search import search
from stablepapers.solving import Solver
from stablepapers.stable import is_stable

# Most rules do not matter, as nothing derives q, r or s; the rules of t and u do.
IDLE = """p(X) :- q(X). q(X + 1) :- q(X). range 0 5. r(X, Y) :- q(X), q(Y), not t. {s(X) : q(X)} :- r(X, X). t :- not u.
:- q(3). u :- not t. 1 {t; u} 1 :- q(0)."""


def solver_of(text):
    statements = parse(text)
    return Solver(statements, ground(statements))


class SolverCase(unittest.TestCase):
    def assert_solved(self, solver, bodies, models):
        """Check what is returned for some bodies, where `models` has the stable candidates that are left."""
        whole = papers.denied(solver.program, bodies)
        self.assertEqual(with_denials(solver.program, bodies), whole)
        kind, found = solver.solve(bodies)
        if models:
            self.assertEqual(kind, "model", whole)
            self.assertIn(found, models, whole)
            self.assertIs(is_stable(whole, found), True, whole)
            self.assertTrue(len(whole[1]) > 8 or definition.is_stable(whole, found), whole)
        else:
            self.assertEqual(kind, "none", whole)
            self.assertIs(none_right(whole, found), True, whole)
            self.assertTrue(papers.none_right(whole, found), whole)
        self.assertEqual(search(whole), (kind, found))
        return found

    def assert_enumerates(self, solver):
        """Ask with denies for the candidates found until there are none left, and then without them again."""
        models = papers.stable_candidates(solver.program)
        first = solver.solve([])
        bodies = []
        left = list(models)
        while left:
            found = self.assert_solved(solver, bodies, left)
            bodies.append(papers.exclusion(solver.program, found))
            left.remove(found)
        self.assert_solved(solver, bodies, [])
        self.assertEqual(solver.solve([]), first)
        self.assert_solved(solver, [], models)
        return len(models)


class Small(SolverCase):
    def test_the_program(self):
        statements = parse("a :- not b. {b}.")
        tried = ground(statements)
        self.assertEqual(Solver(statements, tried).program, ground(statements))

    def test_no_statements(self):
        solver = solver_of("")
        self.assertEqual(solver.solve([]), ("model", []))
        self.assertEqual(solver.solve([[]]), ("none", ([("fire", 0)], None)))
        self.assertEqual(solver.solve([[least(1)], []]), ("none", ([("fire", 1)], None)))
        self.assertEqual(solver.solve([]), ("model", []))

    def test_denies_of_all_kinds(self):
        solver = solver_of("{a; b}. minimize {1 : a; 2 : b}.")
        self.assert_solved(solver, [[yes(0)]], [[], [1]])
        self.assert_solved(solver, [[yes(0)], [yes(1)]], [[]])
        self.assert_solved(solver, [[no(0)]], [[0], [0, 1]])
        self.assert_solved(solver, [[no(0), no(1)], [yes(0), yes(1)]], [[0], [1]])
        self.assert_solved(solver, [[least(2, *solver.program[3])]], [[], [0]])
        self.assert_solved(solver, [[least(0, *solver.program[3])]], [])
        self.assert_solved(solver, [[below(3, *solver.program[3])]], [[0, 1]])
        self.assert_solved(solver, [[below(4, *solver.program[3])]], [])
        self.assert_solved(solver, [[yes(0)], [no(0)]], [])
        self.assert_solved(solver, [[]], [])
        self.assert_solved(solver, [], [[], [0], [1], [0, 1]])

    def test_rules_that_do_not_matter(self):
        solver = solver_of(IDLE)
        self.assertLess(len(matching(parse(IDLE))), len(plain_rules(parse(IDLE))[0]))
        t, u = [solver.program[1].index((name, ())) for name in "tu"]
        self.assert_solved(solver, [], [[t], [u]])
        self.assert_solved(solver, [[yes(t)]], [[u]])
        self.assert_solved(solver, [[yes(u)]], [[t]])
        self.assert_solved(solver, [[yes(t)], [yes(u)]], [])
        for number, (name, _) in enumerate(solver.program[1]):
            if name in "pqrs":
                self.assert_solved(solver, [[no(number)]], [])
                self.assert_solved(solver, [[yes(number)]], [[t], [u]])

    def test_the_paper_has_the_indexes_of_the_whole_program(self):
        solver = solver_of("p :- q. p :- r. q :- p. a :- not b. b :- not a. c :- a, q. :- a, not c. :- b.")
        self.assert_solved(solver, [], [])

    def test_a_text_in_which_few_rules_matter(self):
        text = "range 0 30. edge(X, X + 1) :- edge(X + 1, X). {on(X) : edge(X, Y)}. a :- not b. b :- not a. :- b."
        solver = solver_of(text.replace("{on(X) : edge(X, Y)}.", "on(X) :- edge(X, X)."))
        kind, found = solver.solve([])
        self.assertEqual((kind, [solver.program[1][atom] for atom in found]), ("model", [("a", ())]))
        whole = with_denials(solver.program, [papers.exclusion(solver.program, found)])
        kind, node = solver.solve([papers.exclusion(solver.program, found)])
        self.assertEqual((kind, none_right(whole, node)), ("none", True))


class AgainstTheDefinition(SolverCase):
    def test_texts_of_every_kind_of_statement(self):
        chooser = random.Random(51)
        tried, several = 0, 0
        while tried < 400:
            solver = solver_of(definition.random_text(chooser))
            if len(solver.program[1]) <= 7:
                tried += 1
                several += self.assert_enumerates(solver) > 1
        self.assertGreater(several, 30)

    def test_drawn_bodies(self):
        chooser = random.Random(52)
        tried = 0
        while tried < 120:
            solver = solver_of(definition.random_text(chooser))
            many = len(solver.program[1])
            if 0 < many <= 6:
                tried += 1
                for _ in range(3):
                    bodies = [definition.random_body(chooser, many) for _ in range(chooser.randint(0, 4))]
                    whole = papers.denied(solver.program, bodies)
                    self.assert_solved(solver, bodies, papers.stable_candidates(whole))

    def test_programs_that_are_not_those_of_texts(self):
        chooser = random.Random(53)
        for _ in range(60):
            self.assert_enumerates(Solver([], papers.loopy_program(chooser, 4)))

    def test_larger_texts_with_idle_rules(self):
        chooser = random.Random(54)
        for _ in range(20):
            solver = solver_of(IDLE + definition.random_text(chooser).replace("q", "w"))
            bodies = []
            for _ in range(4):
                whole = with_denials(solver.program, bodies)
                kind, found = solver.solve(bodies)
                if kind == "none":
                    self.assertIs(none_right(whole, found), True)
                    break
                self.assertIs(is_stable(whole, found), True)
                bodies.append(papers.exclusion(solver.program, found))


class Calls(CallsCase):
    def test_arguments_are_left_alone_and_a_second_call_returns_the_same(self):
        statements = parse("{a; b}. c :- a, not b. d :- c. d :- d. minimize {1 : a; 2 : b}.")
        tried = ground(statements)
        kept = copy.deepcopy((statements, tried))
        solver = Solver(statements, tried)
        for bodies in ([], [[yes(0)]], [[least(1, *tried[3])], [no(0)]], [[]]):
            self.assert_left_alone(solver.solve, bodies)
        self.assertEqual((statements, tried), kept)
        self.assertEqual(solver.program, kept[1])

    def test_a_later_call_does_not_depend_on_what_was_asked_before(self):
        text = "1 {a; b; c} 2. d :- a. :- d, b."
        asked = [[], [[yes(0)]], [[no(0)]], [[no(0)], [yes(2)]], [[]], [[yes(0)], [yes(1)], [yes(2)]], []]
        solver = solver_of(text)
        together = [solver.solve(bodies) for bodies in asked]
        self.assertEqual(together, [solver_of(text).solve(bodies) for bodies in asked])
        self.assertEqual(together, [solver.solve(bodies) for bodies in asked])


if __name__ == "__main__":
    unittest.main()
