"""Possible atoms and the plain rules that matter: point 22."""

import copy
import random
import unittest

import definition
from stablepapers.errors import LimitError
from stablepapers.parsing import parse
from stablepapers.plain import plain_rules
from stablepapers.possible import matching, possible_atoms
from stablepapers.programs import ground
from stablepapers.stable import derived


def yes(name, *values):
    return ("yes", (name, values))


def no(name, *values):
    return ("no", (name, values))


def rule(name, *values, body=()):
    return ("rule", (name, values), list(body))


class PossibleAtoms(unittest.TestCase):
    def assert_possible(self, text, *names):
        """Check the possible atoms of a text without constants, of its plain rules and of its program."""
        found = possible_atoms(plain_rules(parse(text))[0])
        self.assertIs(type(found), dict)
        self.assertEqual(set(found), {(name, ()) for name in names}, text)
        _, atoms, rules, _ = ground(parse(text))
        numbers = possible_atoms(rules)
        self.assertIs(type(numbers), dict)
        self.assertEqual({atoms[number] for number in numbers}, set(found))

    def test_nothing(self):
        self.assertEqual(possible_atoms([]), {})
        self.assert_possible("")

    def test_facts_and_chains(self):
        self.assert_possible("a.", "a")
        self.assert_possible("c :- b. b :- a. a.", "a", "b", "c")
        self.assert_possible("a. b :- a. c :- b, a. d :- c, e.", "a", "b", "c")
        self.assert_possible("a :- b.")

    def test_loops_through_yes_atoms(self):
        self.assert_possible("a :- b. b :- a.")
        self.assert_possible("a :- a.")
        self.assert_possible("a :- b. b :- a. b :- c. c.", "a", "b", "c")
        self.assert_possible("a :- b, c. b :- a. c.", "c")

    def test_choices(self):
        self.assert_possible("{a; b : a; c : d}.", "a", "b")
        self.assert_possible("1 {a : c; b} 1 :- d. d. c :- b.", "a", "b", "c", "d")
        self.assert_possible("{a; b} :- c.")

    def test_denies(self):
        self.assert_possible(":- a. b.", "b")
        self.assert_possible("{a}. :- a, not b. :- b.", "a")

    def test_no_conditions_do_not_matter(self):
        self.assert_possible("a :- not b. b. c :- not c.", "a", "b", "c")

    def test_rows_do_not_matter(self):
        self.assert_possible("a :- sum {1 : b} >= 1.", "a")
        self.assert_possible("a :- sum {1 : a, not c} >= 5, sum {1} <= 0. b :- c, sum {1 : a} >= 0.", "a")

    def test_an_atom_twice_in_a_body(self):
        self.assert_possible("a :- b, b. b.", "a", "b")
        self.assert_possible("a :- b, b, c. b.", "b")

    def test_several_rules_with_the_same_head(self):
        self.assert_possible("a :- b. a :- c. c. d :- a, a. d.", "a", "c", "d")

    def test_bodies_with_their_conditions_in_any_order(self):
        row = (1, (3,), ())
        rules = [("rule", 0, [("least", 9, [row]), ("yes", 1), ("no", 2), ("yes", 4), ("below", 0, [row])]),
                 ("choose", 4, [("no", 4), ("yes", 1)]), ("deny", None, [("no", 0)]), ("rule", 1, [])]
        self.assertEqual(set(possible_atoms(rules)), {0, 1, 4})

    def test_against_the_definition(self):
        chooser = random.Random(31)
        for _ in range(1000):
            rules = definition.random_program(chooser, 6)[2]
            self.assertEqual(set(possible_atoms(rules)), definition.possible(rules), rules)

    def test_derived_sets_have_only_possible_atoms(self):
        chooser = random.Random(32)
        for _ in range(200):
            tried = definition.random_program(chooser)
            found = possible_atoms(tried[2])
            for candidate in definition.subsets(range(4)):
                self.assertTrue(set(derived(tried, candidate)) <= set(found))

    def test_long_chain(self):
        rules = [("rule", number, [("yes", number + 1)]) for number in range(3000)] + [("rule", 3000, [])]
        self.assertEqual(len(possible_atoms(rules)), 3001)


class Matching(unittest.TestCase):
    def assert_matching(self, text, *rules):
        found = matching(parse(text))
        self.assertIs(type(found), list)
        self.assertEqual(found, list(rules), text)
        self.assertEqual(found, definition.rules_that_matter(parse(text)), text)

    def assert_as_defined(self, text):
        """Check that the rules that matter are found, that there are some, and that they are not all."""
        expected = definition.rules_that_matter(parse(text))
        self.assertEqual(matching(parse(text)), expected, text)
        self.assertTrue(0 < len(expected) < len(definition.plain_rules(parse(text))[0]), text)

    def test_nothing(self):
        self.assert_matching("")
        self.assert_matching("range 1 9. minimize {X : p(X)}.")
        self.assert_matching("p :- q. :- p. {r} :- p.")

    def test_rules(self):
        self.assert_matching("p(X) :- q(X). q(b). q(a). r(c).",
                             rule("p", "a", body=[yes("q", "a")]), rule("p", "b", body=[yes("q", "b")]),
                             rule("q", "b"), rule("q", "a"), rule("r", "c"))
        self.assert_matching("p :- not q, r. r. s :- p, t.", rule("p", body=[yes("r"), no("q")]), rule("r"))

    def test_loops(self):
        self.assert_matching("a :- b. b :- a. :- a.")
        self.assert_matching("a :- b. b :- a. a :- c. c. :- b.", rule("a", body=[yes("b")]), rule("b", body=[yes("a")]),
                             rule("a", body=[yes("c")]), rule("c"), ("deny", None, [yes("b")]))
        self.assert_as_defined("range 1 5. e(1, 2). e(2, 3). e(3, 1). e(4, 5). p(1, 1). p(X, Z) :- p(X, Y), e(Y, Z).")

    def test_denies(self):
        self.assert_matching(":- p(X), not q(X). p(2). q(1). :- q(2).",
                             ("deny", None, [yes("p", 2), no("q", 2)]), rule("p", 2), rule("q", 1))
        self.assert_matching(":- not p. :- 1 < 2.", ("deny", None, [no("p")]), ("deny", None, []))

    def test_choices(self):
        self.assert_matching("{p(X) : q(X); r} :- s. s. q(1). t(2).",
                             ("choose", ("p", (1,)), [yes("s"), yes("q", 1)]), ("choose", ("r", ()), [yes("s")]),
                             rule("s"), rule("q", 1), rule("t", 2))
        self.assert_matching("1 {p(X)} 1 :- s(X). range 1 2.")

    def test_bounds_have_the_rows_of_all_instances_of_choices(self):
        rows = [(1, (("p", (x,)), ("q", (x,))), ()) for x in (1, 2)]
        self.assert_matching("1 {p(X) : q(X)} 0. q(2). t(1).",
                             ("choose", ("p", (2,)), [yes("q", 2)]), ("deny", None, [("below", 1, rows)]),
                             ("deny", None, [("least", 1, rows)]), rule("q", 2), rule("t", 1))
        rows = [(1, (("p", (1,)), ("q", (1,))), ())]
        self.assert_matching("1 {p(X) : q(X)}. t(1).", ("deny", None, [("below", 1, rows)]), rule("t", 1))

    def test_heads_of_choices_are_possible(self):
        self.assert_matching("{p(1); p(2) : p(1)}. q(X) :- p(X). r :- q(2).",
                             ("choose", ("p", (1,)), []), ("choose", ("p", (2,)), [yes("p", 1)]),
                             rule("q", 1, body=[yes("p", 1)]), rule("q", 2, body=[yes("p", 2)]),
                             rule("r", body=[yes("q", 2)]))

    def test_order(self):
        self.assert_matching("p(X, Y) :- q(Y), q(X). q(b). q(10). q(9).", *[
            rule("p", x, y, body=[yes("q", y), yes("q", x)]) for x in (9, 10, "b") for y in (9, 10, "b")
        ], rule("q", "b"), rule("q", 10), rule("q", 9))
        # A choose has its substitutions outside, then its choices in order, then its bounds.
        self.assert_as_defined("range 1 3. 1 {p(Y, X) : q(Y); r(X); p(X, Z) : q(Z), not r(Z)} 2 :- q(X). "
                               "q(3). q(1). r(2).")
        self.assert_as_defined("range 1 4. p(X, Y, Z) :- q(Z), q(Y), q(X). q(4). q(2). q(X) :- p(X, Y, Z), r.")

    def test_sums(self):
        # Rows are all there, whether their atoms are possible or not.
        rows = [(1, (("p", (1,)),), ()), (2, (("p", (2,)),), ())]
        self.assert_matching("a :- b, sum {X : p(X)} >= 1. b. p(2). c(1) :- a, d.",
                             rule("a", body=[yes("b"), ("least", 1, rows)]), rule("b"), rule("p", 2))
        self.assert_as_defined("range 1 3. a(X) :- sum {Y : p(X, Y)} >= X, b(X). b(2). b(3). "
                               ":- b(1), sum {1 : a(X)} <= 2.")

    def test_variables_that_occur_only_in_heads(self):
        self.assert_as_defined("range 1 3. p(X, Y) :- q(X). q(2). q(Z) :- p(Z, Z), r.")

    def test_variables_that_occur_only_in_comparisons(self):
        self.assert_as_defined("range 1 4. p(X) :- X > 2. q(X) :- p(Y), X < Y. r(X) :- X = Y + 1, p(Y). "
                               "t(X) :- t(X), X = 1.")
        self.assert_as_defined("range 1 4. p :- X + Y = 7, X < Y. q(X) :- 2 * X = Y, Y = 4. r :- Z != Z. "
                               "s :- t, X = X.")
        self.assert_as_defined("q(a). q(1). p(X) :- X = a. r(X) :- X + 1 = 1 + X. s :- a + 1 = X. t :- t. "
                               "u(X) :- X * 0 = 0.")

    def test_variables_that_occur_only_in_no_conditions(self):
        self.assert_as_defined("range 1 3. p(X) :- not q(X). r(X) :- p(X), not q(Y). t :- t, not p(X).")

    def test_variables_that_occur_only_in_sums(self):
        self.assert_as_defined("q(a, 2). p :- sum {1 : q(X, Y)} >= Z. r :- p, sum {Y : q(X, Y)} <= X + 1. t :- t.")
        self.assert_as_defined("q(a, 2). {p(X) : q(X, X)} :- sum {1} >= Y. {p(X) : q(X, 2)} 1 :- sum {X} <= Y.")

    def test_the_same_variable_in_several_choices_and_members(self):
        self.assert_as_defined("range 1 3. {p(X) : q(X); r(X) : s(X)} 1 :- sum {X : t(X)} >= 1. q(1). s(2). s(3).")

    def test_operations_in_yes_conditions(self):
        facts = "range 0 6. q(0). q(2). q(3). q(4). q(a). t :- t. "
        for term in ("X + 1", "1 + X", "X - 1", "3 - X", "2 * X", "X * 2", "X * 0", "0 * X", "X + X", "X * X",
                     "(X - 1) * 2", "2 + (3 - X)", "X + a", "a * X", "(X + 1) - (1 + X)", "2 - (X * 0)",
                     "(2 - X) * (X + 1)"):
            self.assert_as_defined(facts + f"p(X) :- q({term}). r(X, Y) :- q({term}), q(Y).")
        for term in ("X + Y", "X - Y", "X * Y", "X + Y * 2", "X - (Y - X)", "2 * X - 3 * Y"):
            self.assert_as_defined(facts + f"p(X, Y) :- q({term}). r(X, Y) :- q({term}), q(Y).")

    def test_terms_of_one_atom_share_variables(self):
        facts = "range 0 4. q(1, 1). q(1, 2). q(2, 1). q(a, a). q(4, 3). "
        for atom in ("q(X, X)", "q(X, X + 1)", "q(X + 1, X)", "q(X + Y, Y - 1)", "q(X + Y, Y)", "q(1, X)", "q(X, a)",
                     "q(Y, Y)"):
            self.assert_as_defined(facts + f"p(X, Y) :- {atom}. r(X) :- {atom}, q(Y, X).")

    def test_atoms_of_other_lengths_and_names_do_not_match(self):
        self.assert_as_defined("p. p(1). p(1, 2). q(2). r(X) :- p(X). r(X, Y) :- p(X, Y). s :- p. "
                               "r(X) :- p(2, X), q(X).")

    def test_instances_outside_of_the_universe(self):
        self.assert_as_defined("range 1 3. n(1). n(X + 1) :- n(X). m(X - 1) :- n(X). "
                               "k(X) :- n(X), not n(X + 1). t :- t.")

    def test_an_atom_twice_in_a_body(self):
        self.assert_as_defined("range 1 3. q(1). q(2). p(X) :- q(X), q(X). r(X, Y) :- q(X), q(Y), q(X). "
                               "{p(X) : q(X)} :- q(X).")

    def test_equal_statements(self):
        self.assert_as_defined("p(X) :- q(X). p(X) :- q(X). q(1). q(1). r(2). {p(X) : q(X); p(X) : q(X)}.")

    def test_empty_universe(self):
        self.assert_matching("p(X). q :- not p(X). {p(X)}. r.", rule("r"))

    def test_against_the_definition(self):
        chooser = random.Random(33)
        found = all_rules = 0
        for _ in range(2500):
            text = definition.random_text(chooser)
            expected = definition.rules_that_matter(parse(text))
            self.assertEqual(matching(parse(text)), expected, text)
            found += len(expected)
            all_rules += len(definition.plain_rules(parse(text))[0])
        self.assertGreater(found, 5000)
        self.assertGreater(all_rules, found + 5000)


class WithoutLimits(unittest.TestCase):
    """Texts with far more substitutions than could be tried."""

    def matched(self, text):
        statements = parse(text)
        with self.assertRaises(LimitError):
            plain_rules(statements)
        return matching(statements)

    def test_many_variables(self):
        found = self.matched("range 1 200. q(1, 2, 3, 4). q(5, 6, 7, 8). r(4, 9). r(8, 8). "
                             "p(A, E) :- q(A, B, C, D), r(D, E), B < C, F = E + A, not s(F). "
                             ":- p(A, B), p(C, D), A < C.")
        self.assertEqual([one for one in found if one[1] is not None and one[1][0] == "p"], [
            ("rule", ("p", (1, 9)), [yes("q", 1, 2, 3, 4), yes("r", 4, 9), no("s", 10)]),
            ("rule", ("p", (5, 8)), [yes("q", 5, 6, 7, 8), yes("r", 8, 8), no("s", 13)]),
        ])
        self.assertEqual(found[-1], ("deny", None, [yes("p", 1, 9), yes("p", 5, 8)]))
        self.assertEqual(len(found), 7)

    def test_long_loops(self):
        found = self.matched("range 0 2000. n(0). n(X + 1) :- n(X). n(X - 1) :- n(X), n(Y), Y = X + 2, X < 0.")
        self.assertEqual(found, [rule("n", 0)] + [rule("n", x + 1, body=[yes("n", x)]) for x in range(2000)])
        found = self.matched("range 0 9999. n(0). n(X) :- n(X - 1). p(X) :- n(2 * X), n(X + 6000).")
        chain = [rule("n", x, body=[yes("n", x - 1)]) for x in range(1, 10000)]
        self.assertEqual(found, [rule("n", 0)] + chain + [
            rule("p", x, body=[yes("n", 2 * x), yes("n", x + 6000)]) for x in range(4000)])

    def test_equations(self):
        found = self.matched("range 0 9999. q(7). p(A, B, C) :- q(A), B = A + 1, 20 = C + B, 2 * D - 6 = B. "
                             "r(X) :- X = 9.")
        self.assertEqual(found, [rule("q", 7), rule("p", 7, 8, 12, body=[yes("q", 7)]), rule("r", 9)])

    def test_paths(self):
        found = self.matched("range 1 40. e(X, X + 1) :- X < 40. p(X, Y) :- e(X, Y). p(X, Z) :- p(X, Y), e(Y, Z).")
        self.assertEqual(len([one for one in found if one[1][0] == "p"]), 39 + 39 * 38 // 2)

    def test_choices(self):
        found = self.matched("range 1 60. a(1). a(2). b(3). {c(X, Y, Z) : a(X), b(Y), a(Z)}. "
                             ":- c(A, B, C), c(D, E, F), A + D = C + F, A < D.")
        self.assertEqual([one[1] for one in found if one[0] == "choose"],
                         [("c", (x, 3, z)) for x in (1, 2) for z in (1, 2)])
        self.assertEqual([one for one in found if one[0] == "deny"],
                         [("deny", None, [yes("c", 1, 3, 1), yes("c", 2, 3, 2)]),
                          ("deny", None, [yes("c", 1, 3, 2), yes("c", 2, 3, 1)])])

    def test_no_limit_on_rules_rows_and_atoms(self):
        self.assertEqual(len(self.matched("range 1 50. p(X, Y).")), 2500)
        found = self.matched("range 1 80. :- sum {1 : p(X, Y)} >= 1.")
        self.assertEqual(len(found[0][2][0][2]), 6400)
        self.assertEqual(len(matching(parse("range 1 300. p(X)."))), 300)

    def test_bounds_and_sums_beside_many_variables(self):
        found = self.matched("range 1 50. q(1, 2). q(2, 3). "
                             "p(A, C) :- q(A, B), q(B, C), sum {1 : q(C, X)} <= D, D = C + 1. "
                             "1 {r(X)} :- q(A, B), q(B, C), q(A, C).")
        self.assertEqual(found[2:], [("rule", ("p", (1, 3)), [
            yes("q", 1, 2), yes("q", 2, 3), ("below", 5, [(1, (("q", (3, x)),), ()) for x in range(1, 51)])])])


class Calls(unittest.TestCase):
    def test_arguments_are_left_alone_and_a_second_call_returns_the_same(self):
        statements = parse("1 {p(X) : q(X)} 2 :- sum {X : r(X)} >= 1. range 1 2. minimize {X : p(X)}. q(1). :- p(1).")
        kept = copy.deepcopy(statements)
        first, second = matching(statements), matching(statements)
        self.assertEqual(first, second)
        self.assertEqual(statements, kept)
        first[0][2].clear()
        first.clear()
        self.assertEqual(matching(statements), second)
        self.assertEqual(statements, kept)

    def test_possible_atoms(self):
        rules = plain_rules(parse("a :- b. b :- not c. {d : a}. :- e."))[0]
        kept = copy.deepcopy(rules)
        first = possible_atoms(rules)
        self.assertEqual(rules, kept)
        self.assertEqual(possible_atoms(rules), first)
        first.clear()
        self.assertEqual(set(possible_atoms(rules)), {("a", ()), ("b", ()), ("d", ())})


if __name__ == "__main__":
    unittest.main()
