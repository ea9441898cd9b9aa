"""Queries, their answers, and the check of answers: points 16, 18, 21, 27 and 28."""

import itertools
import random
import unittest

import definition
import papers
from shapes import CallsCase
from stablepapers.answers import answer, check_answer
from stablepapers.founded import model_paper
from stablepapers.parsing import parse
from stablepapers.programs import ground

NO_MODEL = "a :- not a. {b}."
ONE_MODEL = "a. b :- a, not c. minimize {4 : b; 5 : c}."
# With a and c, with a and d, and with b.
THREE_MODELS = "1 {a; b} 1. 1 {c; d} 1 :- a. minimize {2 : c; 1 : b; 1 : d; 0 : a}."
TEXTS = (NO_MODEL, ONE_MODEL, THREE_MODELS, "", "{a}.", "e :- f. f :- e. {a}.",
         "p(X) :- not q(X). q(X) :- not p(X). r(1).")
ATOMS = [(name, ()) for name in "abcdefz"] + [("p", (1,)), ("q", (2,)), ("a", (1,)), ("r", (1,)), ("r", ("a",))]
QUERIES = [("model",), ("best",)] + [("all", limit) for limit in (0, 1, 2, 3, 4, 64)]
QUERIES += [(kind, atom) for kind in ("certain", "impossible") for atom in ATOMS]


def named(program, candidate):
    return [program[1][atom] for atom in candidate]


def models_of(text):
    """Return all stable models of a text as lists of pairs, by trying all candidates."""
    program = definition.ground(parse(text))
    return [named(program, one) for one in papers.stable_candidates(program)]


def costs_of(text):
    program = definition.ground(parse(text))
    return [papers.cost(program, one) for one in papers.stable_candidates(program)]


class AnswerCase(unittest.TestCase):
    def assert_checked(self, text, query, given):
        """Check that an answer is accepted exactly if the second reading of the document does; return whether."""
        expected = papers.accepted(definition.ground(parse(text)), query, given)
        self.assertIs(check_answer(text, query, given), expected, (text, query, given))
        return expected

    def assert_refused(self, text, query, *answers):
        for given in answers:
            self.assertIs(check_answer(text, query, given), False, given)
            self.assertFalse(self.assert_checked(text, query, given), given)

    def assert_accepted(self, text, query, given):
        self.assertIs(check_answer(text, query, given), True, (text, query, given))
        self.assertTrue(self.assert_checked(text, query, given), (text, query, given))

    def answer(self, text, query):
        """Return the answer, which must be the same again and accepted."""
        given = answer(text, query)
        self.assertEqual(answer(text, query), given)
        self.assert_accepted(text, query, given)
        return given

    def assert_true(self, text, query, given, models):
        """Check what an answer says about the stable models of a text; `models` has all of them."""
        kind = query[0]
        if kind == "all":
            self.assertEqual(given[0], "all" if len(models) <= query[1] else "more")
            self.assertEqual(len(given[1]), min(len(models), query[1] + 1))
            for one in given[1]:
                self.assertIn(one, models)
            self.assertTrue(papers.all_different(given[1]))
        elif kind in ("certain", "impossible"):
            wrong = [one for one in models if (query[1] in one) == (kind == "impossible")]
            self.assertEqual(given[0], "no" if wrong else "yes")
            if wrong:
                self.assertIn(given[1], wrong)
        elif not models:
            self.assertEqual((given[0], len(given)), ("none", 2))
        elif kind == "model":
            self.assertEqual((given[0], len(given)), ("model", 3))
            self.assertIn(given[1], models)
        else:
            costs = costs_of(text)
            self.assertEqual(given[:2], ("best", min(costs)))
            self.assertEqual(costs[models.index(given[2])], min(costs))


class Examples(AnswerCase):
    def test_of_the_interface(self):
        self.assertEqual(answer("a :- not a.", ("model",))[0], "none")
        text = "{a; b}. :- a, b. minimize {2 : not a; 1 : b}."
        given = answer(text, ("best",))
        self.assertEqual(given[:3], ("best", 0, [("a", ())]))
        self.assertIs(check_answer(text, ("best",), given), True)


class Queries(AnswerCase):
    def test_every_query_about_every_text(self):
        for text in TEXTS:
            models = models_of(text)
            for query in QUERIES:
                self.assert_true(text, query, self.answer(text, query), models)

    def test_model(self):
        self.assertEqual(self.answer(ONE_MODEL, ("model",)), ("model", [("a", ()), ("b", ())], [(0, 0), (1, 1)]))
        self.assertEqual(self.answer("", ("model",)), ("model", [], []))
        self.assertEqual(self.answer(NO_MODEL, ("model",))[0], "none")

    def test_all(self):
        self.assertEqual(self.answer(ONE_MODEL, ("all", 0)),
                         ("more", [[("a", ()), ("b", ())]], [[(0, 0), (1, 1)]]))
        self.assertEqual(self.answer(ONE_MODEL, ("all", 1))[:2], ("all", [[("a", ()), ("b", ())]]))
        self.assertEqual(self.answer(NO_MODEL, ("all", 0))[:2], ("all", []))
        self.assertEqual(self.answer(NO_MODEL, ("all", 0))[2][0], [])
        kind, models, (found, _) = self.answer(THREE_MODELS, ("all", 3))
        self.assertEqual((kind, sorted(models)), ("all", sorted(models_of(THREE_MODELS))))
        program = ground(parse(THREE_MODELS))
        self.assertEqual([named(program, papers.atoms_of(one)) for one in found], models)

    def test_all_with_64_models_and_more(self):
        text = "{a; b; c; d; e; f}."
        self.assertEqual(len(self.answer(text, ("all", 64))[1]), 64)
        self.assertEqual(self.answer(text, ("all", 63))[0], "more")
        self.assertEqual(self.answer(text + " {g}. :- g, not a.", ("all", 64))[0], "more")

    def test_best(self):
        self.assertEqual(self.answer(ONE_MODEL, ("best",))[:3], ("best", 4, [("a", ()), ("b", ())]))
        self.assertEqual(self.answer(THREE_MODELS, ("best",))[:2], ("best", 1))
        self.assertEqual(self.answer("", ("best",))[:3], ("best", 0, []))
        self.assertEqual(self.answer(NO_MODEL, ("best",))[0], "none")

    def test_certain(self):
        self.assertEqual(self.answer(ONE_MODEL, ("certain", ("a", ())))[0], "yes")
        self.assertEqual(self.answer(ONE_MODEL, ("certain", ("c", ())))[:2], ("no", [("a", ()), ("b", ())]))
        self.assertEqual(self.answer(THREE_MODELS, ("certain", ("a", ())))[:2], ("no", [("b", ())]))
        self.assertEqual(self.answer(NO_MODEL, ("certain", ("b", ())))[0], "yes")

    def test_impossible(self):
        self.assertEqual(self.answer(ONE_MODEL, ("impossible", ("c", ())))[0], "yes")
        self.assertEqual(self.answer(ONE_MODEL, ("impossible", ("a", ())))[:2], ("no", [("a", ()), ("b", ())]))
        self.assertEqual(self.answer(THREE_MODELS, ("impossible", ("b", ())))[:2], ("no", [("b", ())]))
        self.assertEqual(self.answer(NO_MODEL, ("impossible", ("a", ())))[0], "yes")

    def test_atoms_that_do_not_occur(self):
        for atom in (("z", ()), ("a", (1,)), ("b", ("a",))):
            self.assertEqual(self.answer(ONE_MODEL, ("impossible", atom)), ("yes", None))
            self.assertEqual(self.answer(NO_MODEL, ("impossible", atom)), ("yes", None))
            self.assertEqual(self.answer(ONE_MODEL, ("certain", atom))[:2], ("no", [("a", ()), ("b", ())]))
            given = self.answer(NO_MODEL, ("certain", atom))
            self.assertEqual(given[0], "yes")
            # It is a none paper for the program itself.
            self.assert_accepted(NO_MODEL, ("model",), ("none", given[1]))

    def test_the_order_of_the_atoms(self):
        text = "q(10). q(b). q(2). q(a, 1). q. p(z). q(a). q(1, a). q(1, 2). q(a1). q(a_). q(10, 0)."
        expected = [("p", ("z",)), ("q", ()), ("q", (2,)), ("q", (10,)), ("q", ("a",)), ("q", ("a1",)), ("q", ("a_",)),
                    ("q", ("b",)), ("q", (1, 2)), ("q", (1, "a")), ("q", (10, 0)), ("q", ("a", 1))]
        self.assertEqual(self.ordered(text, ("model",))[1], expected)
        self.assertEqual(self.ordered(text, ("best",))[2], expected)
        self.assertEqual(self.ordered(text, ("all", 5))[1], [expected])
        self.assertEqual(self.ordered(text, ("all", 0))[1], [expected])
        self.assertEqual(self.ordered(text, ("certain", ("q", (3,))))[1], expected)
        self.assertEqual(self.ordered(text, ("impossible", ("q", (2,))))[1], expected)

    def ordered(self, text, query):
        given = answer(text, query)
        self.assertIs(check_answer(text, query, given), True)
        return given

    def test_drawn_texts(self):
        chooser = random.Random(81)
        tried = 0
        while tried < 150:
            text = definition.random_text(chooser)
            if chooser.random() < 0.5:
                text += f" minimize {definition.random_members(chooser, ['X'])}."
            program = definition.ground(parse(text))
            if len(program[1]) <= 6:
                tried += 1
                models = models_of(text)
                queries = [("model",), ("best",), ("all", chooser.randint(0, 3)), ("all", len(models))]
                atoms = program[1] + [("r", (0,)), ("p", (5,))]
                queries += [(kind, chooser.choice(atoms)) for kind in ("certain", "impossible") for _ in range(2)]
                for query in queries:
                    self.assert_true(text, query, self.answer(text, query), models)


class Changed(AnswerCase):
    def test_a_model(self):
        _, atoms, paper = answer(ONE_MODEL, ("model",))
        for other in ([], atoms[:1], atoms[1:], atoms[::-1], atoms + atoms[1:], atoms + [("c", ())],
                      [("a", ()), ("c", ())], [("a", (1,)), ("b", ())], [("a", ()), ("z", ())]):
            self.assert_refused(ONE_MODEL, ("model",), ("model", other, paper))
        for other in ([], paper[:1], paper[1:], paper[::-1], paper + paper, paper + [(2, 1)], [(0, 1), (1, 1)],
                      [(0, 0), (1, 0)], [(0, 0), (1, -1)], [(0, 0), (1, 2)], [(0, 0), (9, 1)], [(-2, 0), (1, 1)]):
            self.assert_refused(ONE_MODEL, ("model",), ("model", atoms, other))

    def test_a_model_that_is_not_the_one_of_the_paper(self):
        program = ground(parse(THREE_MODELS))
        for one, two in itertools.permutations(papers.stable_candidates(program), 2):
            self.assert_accepted(THREE_MODELS, ("model",), ("model", named(program, one), model_paper(program, one)))
            self.assert_refused(THREE_MODELS, ("model",), ("model", named(program, one), model_paper(program, two)))

    def test_a_none_paper(self):
        _, (steps, end) = answer(NO_MODEL, ("model",))
        for query in (("model",), ("best",)):
            self.assert_accepted(NO_MODEL, query, ("none", (steps, end)))
            self.assert_refused(NO_MODEL, query, ("none", (steps + [("fire", 0)], end)), ("none", ([], None)),
                                ("none", (steps, None)), ("none", ([("fire", 7)] + steps, end)))
            self.assert_refused(ONE_MODEL, query, ("none", (steps, end)))
        _, atom, first, second = end
        self.assert_refused(NO_MODEL, ("model",), ("none", (steps, ("split", atom, second, first))),
                            ("none", (steps, ("split", 1, first, second))),
                            ("none", (steps, ("split", 2, first, second))),
                            ("none", (steps, ("split", atom, first, first))),
                            ("none", (steps, ("split", atom, ([], None), second))))

    def test_a_cost(self):
        _, cost, atoms, paper = answer(ONE_MODEL, ("best",))
        for other in (cost - 1, cost + 1, 0, -cost, 999):
            self.assert_refused(ONE_MODEL, ("best",), ("best", other, atoms, paper))
        self.assert_refused(ONE_MODEL, ("best",), ("best", cost, atoms[:1], paper), ("best", cost, [], paper),
                            ("best", cost, atoms, ([], paper[1])), ("best", cost, atoms, (paper[0], ([], None))),
                            ("best", cost, atoms, (paper[0][::-1], paper[1])))

    def test_a_model_that_is_not_the_best(self):
        program = ground(parse(THREE_MODELS))
        _, cost, atoms, (_, last) = answer(THREE_MODELS, ("best",))
        accepted = []
        for one in papers.stable_candidates(program):
            for stated in range(4):
                given = ("best", stated, named(program, one), (model_paper(program, one), last))
                if self.assert_checked(THREE_MODELS, ("best",), given):
                    accepted.append((stated, papers.cost(program, one)))
        # Two models have the least cost.
        self.assertEqual(accepted, [(1, 1), (1, 1)])

    def test_all(self):
        query = ("all", 3)
        kind, models, (found, last) = answer(THREE_MODELS, query)
        self.assert_refused(THREE_MODELS, query, (kind, models[:2], (found, last)), (kind, models, (found[:2], last)),
                            (kind, models[:2], (found[:2], last)), (kind, [], ([], last)), (kind, models, ([], last)))
        for first, second in ((0, 1), (0, 2), (1, 2)):
            swapped = list(models)
            swapped[first], swapped[second] = swapped[second], swapped[first]
            moved = list(found)
            moved[first], moved[second] = moved[second], moved[first]
            self.assert_refused(THREE_MODELS, query, (kind, swapped, (found, last)), (kind, models, (moved, last)))
            # With both exchanged the none paper has to fit the denies in their new order.
            self.assert_checked(THREE_MODELS, query, (kind, swapped, (moved, last)))
        for place in range(3):
            twice = models[:place] + [models[place - 1]] + models[place + 1:]
            both = found[:place] + [found[place - 1]] + found[place + 1:]
            self.assert_refused(THREE_MODELS, query, (kind, twice, (both, last)), (kind, twice, (found, last)),
                                (kind, models + [models[place]], (found + [found[place]], last)),
                                (kind, models[:place] + [models[place][:-1]] + models[place + 1:], (found, last)))
            self.assert_refused(THREE_MODELS, ("all", 4),
                                (kind, models + [models[place]], (found + [found[place]], last)))
        self.assert_refused(THREE_MODELS, query, (kind, models, (found, ([], None))),
                            (kind, models, (found, (last[0] + [("fire", 0)], last[1]))))

    def test_all_with_another_limit(self):
        given = answer(THREE_MODELS, ("all", 3))
        for limit in (3, 4, 64):
            self.assert_accepted(THREE_MODELS, ("all", limit), given)
        for limit in (0, 1, 2):
            self.assert_refused(THREE_MODELS, ("all", limit), given)

    def test_more(self):
        kind, models, found = answer(THREE_MODELS, ("all", 1))
        self.assertEqual((kind, len(models)), ("more", 2))
        for limit in (0, 2, 3, 64):
            self.assert_refused(THREE_MODELS, ("all", limit), (kind, models, found))
        query = ("all", 1)
        self.assert_accepted(THREE_MODELS, query, (kind, models[::-1], found[::-1]))
        self.assert_refused(THREE_MODELS, query, (kind, models[:1], found[:1]), (kind, models[:1], found),
                            (kind, models, found[:1]), (kind, models[::-1], found), (kind, models, found[::-1]),
                            (kind, models[:1] * 2, found[:1] * 2), (kind, models, found[:1] * 2),
                            (kind, [models[0], models[1][:-1]], found), (kind, models, [found[0], found[1][:-1]]),
                            (kind, [], []))
        three = answer(THREE_MODELS, ("all", 2))
        self.assertEqual(three[0], "more")
        self.assert_accepted(THREE_MODELS, ("all", 2), three)
        self.assert_refused(THREE_MODELS, query, three)
        for place in range(3):
            two = [part[:place] + part[place + 1:] for part in three[1:]]
            self.assert_accepted(THREE_MODELS, query, (kind, *two))

    def test_the_kind(self):
        _, atoms, paper = answer(ONE_MODEL, ("model",))
        _, models, full = answer(ONE_MODEL, ("all", 1))
        self.assert_refused(ONE_MODEL, ("model",), ("no", atoms, paper), ("more", [atoms], [paper]),
                            ("all", models, full), ("yes", full[1]), ("none", full[1]), ("yes", None))
        self.assert_refused(ONE_MODEL, ("all", 1), ("model", atoms, paper), ("no", atoms, paper), ("none", full[1]),
                            ("more", models, full[0]), ("yes", full[1]), ("best", 4, atoms, (paper, full[1])))
        self.assert_refused(ONE_MODEL, ("all", 0), ("all", models, full))
        self.assert_refused(ONE_MODEL, ("best",), ("model", atoms, paper), ("no", atoms, paper))
        self.assert_refused(NO_MODEL, ("all", 2), answer(NO_MODEL, ("model",)))
        self.assert_refused(NO_MODEL, ("model",), ("yes", answer(NO_MODEL, ("model",))[1]))

    def test_certain(self):
        kind, paper = answer(ONE_MODEL, ("certain", ("b", ())))
        self.assert_accepted(ONE_MODEL, ("certain", ("b", ())), (kind, paper))
        self.assert_refused(ONE_MODEL, ("certain", ("b", ())), (kind, None), (kind, ([], None)), ("none", paper))
        for atom in (("c", ()), ("z", ()), ("b", (1,))):
            self.assert_refused(ONE_MODEL, ("certain", atom), (kind, paper), (kind, None))
        for atom in (("a", ()), ("b", ()), ("c", ()), ("z", ())):
            self.assert_refused(ONE_MODEL, ("impossible", atom), (kind, paper))
        _, atoms, model = answer(ONE_MODEL, ("certain", ("c", ())))
        self.assert_accepted(ONE_MODEL, ("certain", ("z", ())), ("no", atoms, model))
        self.assert_refused(ONE_MODEL, ("certain", ("a", ())), ("no", atoms, model), ("no", atoms[1:], model),
                            ("no", [], []), ("no", atoms[1:], model[1:]))
        self.assert_refused(ONE_MODEL, ("certain", ("c", ())), ("no", atoms[1:], model), ("no", atoms, model[1:]),
                            ("no", atoms, []), ("model", atoms, model))

    def test_impossible(self):
        kind, paper = answer(ONE_MODEL, ("impossible", ("c", ())))
        self.assert_refused(ONE_MODEL, ("impossible", ("c", ())), (kind, None), (kind, ([], None)), ("none", paper))
        self.assert_refused(ONE_MODEL, ("impossible", ("b", ())), (kind, paper), (kind, None))
        self.assert_refused(ONE_MODEL, ("certain", ("c", ())), (kind, paper))
        # The paper of an atom that does not occur is None, and nothing else.
        self.assert_accepted(ONE_MODEL, ("impossible", ("z", ())), ("yes", None))
        self.assert_refused(ONE_MODEL, ("impossible", ("z", ())), (kind, paper),
                            ("no", [("a", ()), ("b", ())], [(0, 0), (1, 1)]))
        self.assert_refused(NO_MODEL, ("impossible", ("z", ())), ("yes", answer(NO_MODEL, ("model",))[1]))
        _, atoms, model = answer(ONE_MODEL, ("impossible", ("a", ())))
        self.assert_accepted(ONE_MODEL, ("impossible", ("b", ())), ("no", atoms, model))
        self.assert_refused(ONE_MODEL, ("impossible", ("c", ())), ("no", atoms, model),
                            ("no", atoms + [("c", ())], model))
        self.assert_refused(ONE_MODEL, ("impossible", ("a", ())), ("no", atoms[:1], model), ("no", atoms, model[:1]))

    def test_without_models_papers_fit_several_queries(self):
        node = answer(NO_MODEL, ("model",))[1]
        for name in "abz":
            self.assert_accepted(NO_MODEL, ("certain", (name, ())), ("yes", node))
        for name in "ab":
            self.assert_accepted(NO_MODEL, ("impossible", (name, ())), ("yes", node))
        self.assert_accepted(NO_MODEL, ("all", 0), ("all", [], ([], node)))
        self.assert_accepted(NO_MODEL, ("best",), ("none", node))
        self.assert_refused(NO_MODEL, ("impossible", ("z", ())), ("yes", node))
        self.assert_refused(NO_MODEL, ("all", 0), ("none", node), ("more", [[]], [[]]), ("more", [], []))

    def test_answers_to_other_queries_and_other_texts(self):
        answers = [answer(text, query) for text in TEXTS for query in QUERIES]
        different = [one for place, one in enumerate(answers) if one not in answers[:place]]
        accepted = 0
        for text in TEXTS:
            program = definition.ground(parse(text))
            for query in QUERIES:
                for given in different:
                    expected = papers.accepted(program, query, given)
                    self.assertIs(check_answer(text, query, given), expected, (text, query, given))
                    accepted += expected
        self.assertGreater(accepted, len(TEXTS) * len(QUERIES))


class DrawnChanges(AnswerCase):
    def changed_atoms(self, chooser, atoms, program):
        atoms = list(atoms)
        if atoms and chooser.random() < 0.5:
            del atoms[chooser.randrange(len(atoms))]
        else:
            atoms.insert(chooser.randint(0, len(atoms)), chooser.choice(program[1] + [("zz", ())]))
        return atoms

    def changed_models(self, chooser, models, found, program):
        """Return models and their papers with a change in one of them, or in the order of both."""
        models, found = list(models), list(found)
        kind = chooser.choice(["order", "twice", "out", "model", "paper"])
        if kind == "order" or not models:
            order = chooser.sample(range(len(models)), len(models))
            return [models[one] for one in order], [found[one] for one in order]
        place = chooser.randrange(len(models))
        if kind == "twice":
            models.append(models[place])
            found.append(found[place])
        elif kind == "out":
            del models[place], found[place]
        elif kind == "model":
            models[place] = self.changed_atoms(chooser, models[place], program)
        else:
            found[place] = papers.changed_paper(chooser, found[place], program)
        return models, found

    def changed(self, chooser, given, program):
        """Return an answer with one thing changed, so that it still has a form of point 27."""
        def node(old):
            return papers.changed_node(chooser, old, program[2] + [("deny", None, [])], len(program[1]))

        kind = given[0]
        if kind == "none":
            return (kind, node(given[1]))
        if kind == "yes":
            return (kind, None if given[1] is None or chooser.random() < 0.1 else node(given[1]))
        if kind in ("model", "no"):
            if chooser.random() < 0.5:
                return (kind, self.changed_atoms(chooser, given[1], program), given[2])
            return (kind, given[1], papers.changed_paper(chooser, given[2], program))
        if kind == "more":
            return (kind, *self.changed_models(chooser, given[1], given[2], program))
        if kind == "all":
            models, (found, last) = given[1:]
            if chooser.random() < 0.5:
                return (kind, models, (found, node(last)))
            models, found = self.changed_models(chooser, models, found, program)
            return (kind, models, (found, last))
        _, cost, atoms, (first, last) = given
        part = chooser.choice(["cost", "atoms", "first", "last"])
        if part == "cost":
            return (kind, cost + chooser.choice([-1, 1]), atoms, (first, last))
        if part == "atoms":
            return (kind, cost, self.changed_atoms(chooser, atoms, program), (first, last))
        if part == "first":
            return (kind, cost, atoms, (papers.changed_paper(chooser, first, program), last))
        return (kind, cost, atoms, (first, node(last)))

    def test_drawn_texts(self):
        chooser = random.Random(82)
        counts = {True: 0, False: 0}
        tried = 0
        while tried < 150:
            text = definition.random_text(chooser)
            program = definition.ground(parse(text))
            if not 0 < len(program[1]) <= 6:
                continue
            tried += 1
            models = models_of(text)
            queries = [("model",), ("best",), ("all", chooser.randint(0, 4)), ("all", len(models))]
            queries += [(kind, chooser.choice(program[1])) for kind in ("certain", "impossible")]
            for query in queries:
                given = answer(text, query)
                for _ in range(3):
                    changed = self.changed(chooser, given, program)
                    expected = papers.accepted(program, query, changed)
                    counts[expected] += 1
                    self.assertIs(check_answer(text, query, changed), expected, (text, query, changed))
                    if expected:
                        self.assert_true(text, query, changed, models)
                    for other in queries:
                        self.assertIs(check_answer(text, other, changed), papers.accepted(program, other, changed))
        self.assertGreater(counts[True], 100)
        self.assertGreater(counts[False], 1000)


class Calls(CallsCase):
    def test_arguments_are_left_alone_and_a_second_call_returns_the_same(self):
        for text in TEXTS:
            for query in QUERIES:
                given = self.assert_left_alone(answer, text, query)
                self.assert_left_alone(check_answer, text, query, given)
                for other in (("model",), ("best",), ("all", 2), ("certain", ("a", ()))):
                    self.assert_left_alone(check_answer, text, other, given)


if __name__ == "__main__":
    unittest.main()
