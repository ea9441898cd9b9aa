"""The universe of a list of statements: point 7."""

import copy
import random
import unittest

import definition
from stablepapers.parsing import parse
from stablepapers.universe import universe


class Universe(unittest.TestCase):
    def assert_universe(self, text, *constants):
        found = universe(parse(text))
        self.assertIs(type(found), list)
        self.assertEqual(found, list(constants), text)

    def test_nothing(self):
        self.assertEqual(universe([]), [])
        self.assert_universe("p :- q, not r. p(X) :- X < Y. {p; q}. minimize {X : p(X)}.")

    def test_order(self):
        self.assert_universe("p(b, 10). p(a, 9). p(aB, 0). q(aa, b2, b10, a_b).",
                             0, 9, 10, "a", "aB", "a_b", "aa", "b", "b10", "b2")
        self.assert_universe("p(z, 9999, a, 0).", 0, 9999, "a", "z")

    def test_each_constant_once(self):
        self.assert_universe("p(1, a). q(a, 1) :- r(1), not s(a), 1 < a. range 0 2.", 0, 1, 2, "a")

    def test_ranges(self):
        self.assert_universe("range 2 5.", 2, 3, 4, 5)
        self.assert_universe("range 3 3.", 3)
        self.assert_universe("range 0 1. range 4 5. range 1 2.", 0, 1, 2, 4, 5)
        self.assert_universe("p(a). range 9 10. p(3).", 3, 9, 10, "a")

    def test_range_with_low_greater_than_high(self):
        self.assert_universe("range 5 4.")
        self.assert_universe("range 9 1. p(5).", 5)

    def test_long_range(self):
        self.assert_universe("range 0 9999.", *range(10000))

    def test_heads_and_conditions_of_bodies(self):
        self.assert_universe("p(1, a).", 1, "a")
        self.assert_universe("p :- q(2, b).", 2, "b")
        self.assert_universe("p :- not q(3, c).", 3, "c")
        self.assert_universe(":- q(4), not r(d).", 4, "d")
        self.assert_universe("{p} :- q(5), not r(e), 6 < f.", 5, 6, "e", "f")

    def test_both_sides_of_comparisons(self):
        self.assert_universe(":- 1 < 2, a != b, X = c, 7 >= Y.", 1, 2, 7, "a", "b", "c")

    def test_choices_and_their_conditions(self):
        self.assert_universe("{p(1, a); q(2) : r(b), not s(3), X < 4, c = 5}.", 1, 2, 3, 4, 5, "a", "b", "c")

    def test_conditions_of_members(self):
        self.assert_universe(":- sum {X : p(1), not q(a), X < 2, 3 = b; 0 : r(c)} >= 9.", 1, 2, 3, "a", "b", "c")
        self.assert_universe("minimize {X : p(1), not q(a), X < 2; Y : b = 3}.", 1, 2, 3, "a", "b")

    def test_left_out_are_weights_and_bounds_of_sums(self):
        self.assert_universe(":- sum {1; a; X + 2 : p(X); 3 * (4 - c)} >= 5 + b.")
        self.assert_universe("p :- sum {1} <= 6, sum {2 : q(7)} >= d.", 7)
        self.assert_universe("minimize {1; a; X + 2 : p(X), X < 8}.", 8)
        self.assert_universe("{p} :- sum {1} <= 6.")

    def test_left_out_are_bounds_of_choices(self):
        self.assert_universe("1 {p; q} 2.")
        self.assert_universe("1 {p(5)} 2 :- r(6).", 5, 6)

    def test_a_constant_that_stands_also_elsewhere_is_in_it(self):
        self.assert_universe(":- sum {4 : p(4)} >= 4.", 4)
        self.assert_universe("minimize {a}. p(a).", "a")

    def test_terms_in_operations(self):
        self.assert_universe("p(1 + 2 * (3 - a)).", 1, 2, 3, "a")
        self.assert_universe(":- X + 5 < (6 * Y) - b, q(X - 7).", 5, 6, 7, "b")

    def test_results_do_not_count(self):
        self.assert_universe("p(1 - 2).", 1, 2)
        self.assert_universe("p(20 + 22, 6 * 7).", 6, 7, 20, 22)
        self.assert_universe(":- 3 - 4 < 0.", 0, 3, 4)

    def test_names_of_predicates_and_variables_do_not_count(self):
        self.assert_universe("p(X) :- q(Y), not r.")

    def test_against_the_definition(self):
        chooser = random.Random(4)
        for _ in range(1000):
            text = definition.random_text(chooser)
            statements = parse(text)
            self.assertEqual(universe(statements), definition.universe(statements), text)

    def test_arguments_are_left_alone_and_a_second_call_returns_the_same(self):
        statements = parse("p(1, a). range 2 3. {q(X) : r(b)} 2 :- sum {1 : p(c)} >= 1. minimize {1 : p(4)}.")
        kept = copy.deepcopy(statements)
        first = universe(statements)
        self.assertEqual(first, [1, 2, 3, 4, "a", "b", "c"])
        self.assertEqual(statements, kept)
        first.clear()
        self.assertEqual(universe(statements), [1, 2, 3, 4, "a", "b", "c"])


if __name__ == "__main__":
    unittest.main()
