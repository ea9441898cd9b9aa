"""The search: points 21 and 23."""

import random
import unittest

import definition
import papers
from shapes import CallsCase, below, chain, choose, deny, least, loop, no, program, rule, yes
from stablepapers.founded import model_paper, model_right
from stablepapers.parsing import parse
from stablepapers.programs import ground
from stablepapers.refuted import none_right
from stablepapers.search import Search, search
from stablepapers.stable import is_stable


def steps_of(node):
    return [step for one in papers.all_nodes(node) for step in one[0]]


def depth(node):
    return 0 if node[1] is None else 1 + max(depth(node[1][2]), depth(node[1][3]))


class SearchCase(unittest.TestCase):
    def assert_found(self, tried, models=None):
        """Check what a search returns, by trying all candidates if the models are not given."""
        if models is None:
            models = papers.stable_candidates(tried)
        kind, found = search(tried)
        if models:
            self.assertEqual(kind, "model", tried)
            self.assertIn(found, models, tried)
        else:
            self.assertEqual(kind, "none", tried)
            self.assertIs(none_right(tried, found), True, tried)
            self.assertTrue(papers.none_right(tried, found), tried)
        self.assertEqual(search(tried), (kind, found))
        return kind

    def assert_no_model(self, rules, many=4):
        self.assertEqual(self.assert_found(program(rules, many), []), "none")


class Small(SearchCase):
    def test_no_atoms(self):
        self.assertEqual(search(program([], many=0)), ("model", []))
        self.assertEqual(search(program([deny(least(1))], many=0)), ("model", []))
        self.assertEqual(search(program([deny(below(0, (1, (), ())))], many=0)), ("model", []))
        self.assertEqual(search(program([deny(below(2, (1, (), ())))], many=0))[0], "none")
        self.assertEqual(search(program([deny()], many=0)), ("none", ([("fire", 0)], None)))
        self.assertEqual(search(program([deny(least(1)), deny()], many=0)), ("none", ([("fire", 1)], None)))

    def test_a_deny_without_conditions(self):
        self.assert_no_model([choose(0), choose(1), deny()])

    def test_atoms_that_occur_in_no_rule(self):
        self.assertEqual(search(program([])), ("model", []))
        self.assertEqual(search(program([rule(2)])), ("model", [2]))
        self.assert_no_model([deny(no(3))])
        self.assert_no_model([rule(0), deny(no(3), yes(0))])

    def test_one_model(self):
        self.assertEqual(search(chain(90)), ("model", list(range(90))))
        self.assertEqual(search(ground(parse("a. b :- a, not c. c :- d."))), ("model", [0, 1]))
        self.assertEqual(search(program(loop(4))), ("model", []))

    def test_no_model(self):
        self.assert_no_model([rule(0, no(0))])
        self.assert_no_model([rule(0, no(1)), rule(1, no(2)), rule(2, no(0))])
        self.assert_no_model([choose(0), deny(yes(0)), deny(no(0))])
        self.assert_no_model([rule(0), deny(yes(0))])
        self.assert_no_model(loop(4) + [deny(no(2))])
        self.assert_no_model([rule(0, yes(0), no(1)), rule(1, no(0), no(1))])

    def test_several_models(self):
        self.assert_found(ground(parse("a :- not b. b :- not a.")), [[0], [1]])
        self.assert_found(ground(parse("1 {a; b; c} 1.")), [[0], [1], [2]])

    def test_conditions_in_any_order(self):
        rows = [(1, (0,), ()), (1, (), (1,)), (2, (0,), (1,))]
        bodies = [[yes(2), least(3, *rows), no(3)], [below(3, *rows), no(3), yes(2)], [no(3), yes(2), below(4, *rows)]]
        for chosen in definition.subsets(range(3)):
            rules = [choose(0), choose(1), rule(2)] + [deny(*bodies[number]) for number in chosen]
            self.assert_found(program(rules))


class Large(SearchCase):
    def test_long_chains_and_loops(self):
        kind, atoms, rules, costs = chain(90)
        for more in (rules, rules[::-1]):
            self.assert_found((kind, atoms, more + [deny(yes(89))], costs), [])
        self.assert_found((kind, atoms, loop(90) + [deny(no(45))], costs), [])

    def test_a_long_loop_with_a_way_in(self):
        atoms = [("a", (number,)) for number in range(90)]
        rules = loop(89, no(89)) + [choose(89), deny(no(3))]
        self.assert_found(("program", atoms, rules, []), [list(range(89))])
        self.assert_found(("program", atoms, rules + [deny(yes(80))], []), [])
        self.assert_found(("program", atoms, rules + [deny(no(89))], []), [])

    def pigeons(self, pigeons, holes):
        """Return a program in which each pigeon is in one hole, and no hole has two pigeons."""
        facts = [f"p({number})." for number in range(pigeons)] + [f"h({number})." for number in range(holes)]
        return ground(parse(" ".join(facts) + " 1 {in(P, H) : h(H)} 1 :- p(P). :- in(P, H), in(Q, H), P < Q."))

    def test_pigeons_and_holes(self):
        for many in (1, 2, 3, 4, 5):
            tried = self.pigeons(many + 1, many)
            kind, node = search(tried)
            self.assertEqual(kind, "none")
            self.assertIs(none_right(tried, node), True)
            tried = self.pigeons(many, many)
            kind, found = search(tried)
            self.assertEqual((kind, len(found)), ("model", 3 * many))
            self.assertIs(is_stable(tried, found), True)

    def test_200_atoms(self):
        tried = ground(parse("range 1 200. {p(X) : X > 0}. :- not p(X), X > 0."))
        self.assertEqual(search(tried), ("model", list(range(200))))
        tried = ground(parse("range 1 200. {p(X) : X > 0}. :- sum {1 : p(X), X > 0} >= 0."))
        self.assertEqual(search(tried)[0], "none")
        tried = ground(parse("range 1 200. 100 {p(X) : X > 0} 100."))
        kind, found = search(tried)
        self.assertEqual((kind, len(found), is_stable(tried, found)), ("model", 100, True))

    def test_papers_are_at_most_as_deep_as_there_are_atoms(self):
        tried = ground(parse("range 1 60. {p(X) : X > 0}. :- sum {1 : p(X), X > 0} <= 59. :- p(30)."))
        kind, node = search(tried)
        self.assertEqual(kind, "none")
        self.assertLessEqual(depth(node), 60)
        self.assertIs(none_right(tried, node), True)

    def test_atoms_that_have_nothing_to_do_with_it_are_left_out(self):
        # Without leaving splits out this would be a tree of 2 ** 25 nodes.
        choices = " ".join(f"a{number} :- not b{number}. b{number} :- not a{number}." for number in range(25))
        tried = ground(parse(choices + " c :- not d. d :- not c. e :- c, not e. e :- d, not e."))
        kind, node = search(tried)
        self.assertEqual(kind, "none")
        self.assertIs(none_right(tried, node), True)
        self.assertLessEqual(len(papers.all_nodes(node)), 7)
        self.assertLessEqual(len(steps_of(node)), 20)


class AgainstTheDefinition(SearchCase):
    def assert_papers(self, chooser, tried):
        """Check the search in a program, and in the program with a deny for each of its models."""
        models = papers.stable_candidates(tried)
        kind = self.assert_found(tried, models)
        for model in models:
            self.assertIs(model_right(tried, model_paper(tried, model)), True)
        if models:
            self.assert_found(papers.fully_denied(chooser, tried), [])
        for place in range(min(len(models), 3)):
            bodies = [papers.exclusion(tried, one) for one in models[:place] + models[place + 1:]]
            self.assertEqual(search(papers.denied(tried, bodies)), ("model", models[place]))
        return kind

    def test_programs_of_all_kinds_of_rules_and_conditions(self):
        chooser = random.Random(41)
        kinds = [self.assert_papers(chooser, definition.random_program(chooser)) for _ in range(500)]
        self.assertGreater(kinds.count("none"), 50)
        self.assertGreater(kinds.count("model"), 200)

    def test_programs_with_loops(self):
        chooser = random.Random(42)
        kinds = [self.assert_papers(chooser, papers.loopy_program(chooser, turn % 4 + 2)) for turn in range(500)]
        self.assertGreater(kinds.count("none"), 50)
        self.assertGreater(kinds.count("model"), 200)

    def test_programs_with_more_atoms(self):
        chooser = random.Random(43)
        for _ in range(25):
            self.assert_papers(chooser, papers.loopy_program(chooser, 7))

    def test_texts(self):
        chooser = random.Random(44)
        tried = 0
        while tried < 150:
            found = ground(parse(definition.random_text(chooser)))
            if len(found[1]) <= 7:
                tried += 1
                self.assert_papers(chooser, found)

    def test_without_trying_all_candidates(self):
        chooser = random.Random(45)
        for _ in range(60):
            tried = papers.loopy_program(chooser, 20)
            kind, found = search(tried)
            if kind == "model":
                self.assertEqual(found, sorted(set(found)))
                self.assertIs(is_stable(tried, found), True)
            else:
                self.assertIs(none_right(tried, found), True)


class Splits(unittest.TestCase):
    def assert_no_step_is_left(self, tried, values):
        """Check that no step is right under an assignment that would set an undecided atom or clash."""
        steps = papers.all_steps(tried[2], len(values))
        steps += [("unfounded", atoms) for atoms in definition.subsets(range(len(values))) if len(atoms) > 2]
        for step in steps:
            if papers.step_right(tried[2], step, values):
                self.assertEqual(papers.step_result(tried[2], step, values), (values, False), (tried, step))

    def test_there_is_a_split_only_where_no_step_is_left(self):
        chooser = random.Random(46)
        seen = 0
        for turn in range(1000):
            draw = definition.random_program if turn % 2 else papers.loopy_program
            tried = papers.fully_denied(chooser, draw(chooser, 4))
            found = Search(tried)
            choose_atom = found.chooser.choose
            states = []

            def watched():
                states.append(list(found.path.counts.assigned))
                return choose_atom()

            found.chooser.choose = watched
            self.assertIsNone(found.run())
            seen += len(states)
            for values in states:
                self.assertIn(None, values)
                self.assert_no_step_is_left(tried, values)
        self.assertGreater(seen, 200)


class Calls(CallsCase):
    def test_arguments_are_left_alone_and_a_second_call_returns_the_same(self):
        rules = loop(3) + [choose(3, least(1, (1, (4,), (0,)))), choose(4), deny(below(1, (1, (3,), ())))]
        self.assert_left_alone(search, program(rules, many=5, costs=[(3, (4,), (3,))]))
        self.assert_left_alone(search, program(rules + [deny(yes(3), yes(4))], many=5))
        self.assert_left_alone(search, program([], many=0))


if __name__ == "__main__":
    unittest.main()
