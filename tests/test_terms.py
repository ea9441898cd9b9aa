"""Constants and their order, values of terms, instances, and substitutions: points 7 and 9."""

import copy
import itertools
import random
import unittest

import definition
from stablepapers.parsing import parse
from stablepapers.terms import atom_instance, conditions_instance, holds, rank, substitutions, value

X, Y = ("var", "X"), ("var", "Y")
A, B = ("sym", "a"), ("sym", "b")
ONE, TWO, THREE = ("int", 1), ("int", 2), ("int", 3)
# In the order of point 7.
CONSTANTS = [-12, -3, -1, 0, 1, 2, 10, 9999, "a", "aA", "aB", "a_", "aa", "ab", "b", "b0", "z"]


def op(sign, left, right):
    return ("op", sign, left, right)


class Ranks(unittest.TestCase):
    def test_order(self):
        for first, second in itertools.combinations(CONSTANTS, 2):
            self.assertLess(rank(first), rank(second))
            self.assertNotEqual(rank(first), rank(second))

    def test_equal_constants_have_equal_keys(self):
        for constant in CONSTANTS:
            self.assertEqual(rank(constant), rank(constant))

    def test_sorting(self):
        shuffled = list(CONSTANTS)
        for seed in range(20):
            random.Random(seed).shuffle(shuffled)
            self.assertEqual(sorted(shuffled, key=rank), CONSTANTS)

    def test_long_symbols_and_great_integers(self):
        self.assertEqual(sorted(["b", "a" * 20, 10 ** 40, -10 ** 40, "c1", "c10", "c2"], key=rank),
                         [-10 ** 40, 10 ** 40, "a" * 20, "b", "c1", "c10", "c2"])


class Values(unittest.TestCase):
    def test_plain_terms(self):
        self.assertEqual(value(("int", 0), {}), 0)
        self.assertEqual(value(("int", 9999), {}), 9999)
        self.assertEqual(value(A, {}), "a")
        self.assertEqual(value(X, {"X": 7, "Y": "b"}), 7)
        self.assertEqual(value(Y, {"X": 7, "Y": "b"}), "b")

    def test_operations_on_integers(self):
        self.assertEqual(value(op("+", TWO, THREE), {}), 5)
        self.assertEqual(value(op("-", TWO, THREE), {}), -1)
        self.assertEqual(value(op("*", TWO, THREE), {}), 6)
        self.assertEqual(value(op("-", THREE, THREE), {}), 0)
        self.assertEqual(value(op("*", X, ("int", 0)), {"X": -5}), 0)
        self.assertEqual(value(op("-", X, Y), {"X": 1, "Y": 9999}), -9998)

    def test_operations_in_operations(self):
        self.assertEqual(value(op("*", op("-", X, THREE), op("+", X, ONE)), {"X": 1}), -4)
        self.assertEqual(value(op("-", op("-", ONE, TWO), THREE), {}), -4)
        self.assertEqual(value(op("-", ONE, op("-", TWO, THREE)), {}), 2)
        # An operand of 0 is a value like any other.
        self.assertEqual(value(op("+", op("-", ONE, ONE), op("*", TWO, ("int", 0))), {}), 0)

    def test_operations_on_symbols(self):
        for sign in "+-*":
            self.assertIsNone(value(op(sign, A, ONE), {}))
            self.assertIsNone(value(op(sign, ONE, A), {}))
            self.assertIsNone(value(op(sign, A, B), {}))
            self.assertIsNone(value(op(sign, X, ONE), {"X": "a"}))
            self.assertIsNone(value(op(sign, ONE, Y), {"X": 1, "Y": "b"}))
            self.assertIsNone(value(op("+", ONE, op(sign, A, ONE)), {}))
            self.assertIsNone(value(op("*", op(sign, ONE, X), ("int", 0)), {"X": "a"}))

    def test_great_values(self):
        term = ("int", 9999)
        for _ in range(29):
            term = op("*", term, ("int", 9999))
        self.assertEqual(value(term, {}), 9999 ** 30)


class Relations(unittest.TestCase):
    def test_each_sign_over_all_pairs(self):
        for (at, left), (other, right) in itertools.product(enumerate(CONSTANTS), repeat=2):
            self.assertIs(holds("=", left, right), at == other)
            self.assertIs(holds("!=", left, right), at != other)
            self.assertIs(holds("<", left, right), at < other)
            self.assertIs(holds("<=", left, right), at <= other)
            self.assertIs(holds(">", left, right), at > other)
            self.assertIs(holds(">=", left, right), at >= other)

    def test_integers_are_before_symbols(self):
        self.assertTrue(holds("<", 9999, "a"))
        self.assertTrue(holds(">=", "a", 0))
        self.assertFalse(holds("<=", "a", 9999))
        self.assertFalse(holds("=", 1, "a"))
        self.assertTrue(holds("!=", "a", 1))


class AtomInstances(unittest.TestCase):
    def test_example_of_the_interface(self):
        self.assertEqual(
            atom_instance(("atom", "p", [("op", "+", ("var", "X"), ("int", 1))]), {"X": 2}, [1, 2, 3]), ("p", (3,))
        )

    def test_without_terms(self):
        for constants in ([], {}, [1]):
            self.assertEqual(atom_instance(("atom", "p", []), {}, constants), ("p", ()))

    def test_several_terms(self):
        found = atom_instance(("atom", "q", [A, X, op("-", X, Y), Y]), {"X": 2, "Y": 1}, [1, 2, "a"])
        self.assertEqual(found, ("q", ("a", 2, 1, 1)))
        self.assertEqual([type(found), type(found[1])], [tuple, tuple])

    def test_values_outside_of_the_universe(self):
        atom = ("atom", "p", [op("+", X, ONE)])
        for constants in ([1, 2, 3], {1: True, 2: True, 3: True}, {1: None, 2: 0, 3: False}):
            self.assertEqual(atom_instance(atom, {"X": 1}, constants), ("p", (2,)))
            self.assertEqual(atom_instance(atom, {"X": 2}, constants), ("p", (3,)))
            self.assertIsNone(atom_instance(atom, {"X": 3}, constants))
            self.assertIsNone(atom_instance(("atom", "p", [op("-", X, ONE)]), {"X": 1}, constants))
            self.assertIsNone(atom_instance(("atom", "p", [ONE, A]), {}, constants))
            self.assertIsNone(atom_instance(("atom", "p", [("int", 0), ONE]), {}, constants))

    def test_zero_and_negative_constants_of_the_universe(self):
        self.assertEqual(atom_instance(("atom", "p", [op("-", X, X)]), {"X": 3}, [0, 3]), ("p", (0,)))
        self.assertEqual(atom_instance(("atom", "p", [op("-", ONE, X)]), {"X": 3}, {-2: True}), ("p", (-2,)))

    def test_terms_without_a_value(self):
        atom = ("atom", "p", [ONE, op("+", X, ONE)])
        self.assertIsNone(atom_instance(atom, {"X": "a"}, [1, "a"]))
        self.assertIsNone(atom_instance(("atom", "p", [op("*", A, A), ONE]), {}, [1, "a"]))


class ConditionInstances(unittest.TestCase):
    def test_without_conditions(self):
        self.assertEqual(conditions_instance([], {}, []), ((), ()))

    def test_yes_and_no_atoms_in_their_order(self):
        conditions = parse(":- not r, p(X), not q(Y), X < Y, q(X + 1), not p(2).")[0][1]
        for constants in ([1, 2, 3], {1: True, 2: True, 3: True}):
            found = conditions_instance(conditions, {"X": 1, "Y": 3}, constants)
            self.assertEqual(found, ((("p", (1,)), ("q", (2,))), (("r", ()), ("q", (3,)), ("p", (2,)))))
            self.assertEqual([type(found), type(found[0]), type(found[1])], [tuple, tuple, tuple])

    def test_equal_atoms_are_kept(self):
        conditions = parse(":- p(X), p(1), not q, p(X), not q.")[0][1]
        self.assertEqual(conditions_instance(conditions, {"X": 1}, [1]), ((("p", (1,)),) * 3, (("q", ()),) * 2))

    def test_atoms_without_an_instance(self):
        for text in (":- p(X + 1).", ":- not p(X + 1).", ":- q, p(a), r.", ":- not p(a), q.", ":- p(1), not p(b + 1)."):
            self.assertIsNone(conditions_instance(parse(text)[0][1], {"X": 2}, [1, 2]), text)

    def test_comparisons(self):
        def instance(text, names):
            return conditions_instance(parse(f":- {text}.")[0][1], names, [1, 2, "a"])

        self.assertEqual(instance("X < 2", {"X": 1}), ((), ()))
        self.assertIsNone(instance("X < 2", {"X": 2}))
        self.assertIsNone(instance("p, X < 2, q", {"X": 2}))
        self.assertIsNone(instance("X < 2, X > 1", {"X": 1}))
        # A symbol is greater than each integer.
        self.assertEqual(instance("X > 9999", {"X": "a"}), ((), ()))
        self.assertEqual(instance("b > a, b != a, a <= a, b = b", {}), ((), ()))

    def test_sides_of_a_comparison_need_not_be_in_the_universe(self):
        conditions = parse(":- X * 100 > 50, 7 = 3 + 4, X - 5 < 0, zz = zz.")[0][1]
        self.assertEqual(conditions_instance(conditions, {"X": 1}, [1]), ((), ()))

    def test_sides_without_a_value(self):
        for sign in ("=", "!=", "<", "<=", ">", ">="):
            for left, right in (("a + 1", "1"), ("1", "X * 2"), ("a + 1", "a + 1"), ("X + 1", "b - 1")):
                conditions = parse(f":- {left} {sign} {right}.")[0][1]
                self.assertIsNone(conditions_instance(conditions, {"X": "b"}, [1, 2, "a", "b"]))

    def test_against_the_definition(self):
        chooser = random.Random(3)
        constants = [0, 1, 2, "a"]
        seen = set()
        for _ in range(2000):
            text = ", ".join(definition.random_condition(chooser, ["X", "Y"]) for _ in range(chooser.randint(1, 3)))
            conditions = parse(f":- {text}.")[0][1]
            names = {"X": chooser.choice(constants), "Y": chooser.choice(constants)}
            expected = definition.conditions_instance(conditions, names, constants)
            self.assertEqual(conditions_instance(conditions, names, constants), expected, text)
            seen.add(expected is None)
        self.assertEqual(seen, {True, False})


class Substitutions(unittest.TestCase):
    def test_example_of_the_interface(self):
        self.assertEqual(
            substitutions({}, ["X", "Y"], [1, "a"]),
            [{"X": 1, "Y": 1}, {"X": 1, "Y": "a"}, {"X": "a", "Y": 1}, {"X": "a", "Y": "a"}],
        )

    def test_no_variables(self):
        for constants in ([], [1, 2], {}):
            self.assertEqual(substitutions({}, [], constants), [{}])
            self.assertEqual(substitutions({"X": 1}, [], constants), [{"X": 1}])

    def test_one_variable(self):
        self.assertEqual(substitutions({}, ["X"], [1, 2, "a"]), [{"X": 1}, {"X": 2}, {"X": "a"}])
        self.assertEqual(substitutions({}, ["X"], {3: True, "b": True}), [{"X": 3}, {"X": "b"}])

    def test_from_a_filled_substitution(self):
        self.assertEqual(substitutions({"Z": "b"}, ["X"], [1, 2]), [{"Z": "b", "X": 1}, {"Z": "b", "X": 2}])
        self.assertEqual(
            [(one["Z"], one["Y"], one["X"]) for one in substitutions({"Z": 0}, ["Y", "X"], [1, "a"])],
            [(0, 1, 1), (0, 1, "a"), (0, "a", 1), (0, "a", "a")],
        )

    def test_empty_universe(self):
        self.assertEqual(substitutions({}, ["X"], []), [])
        self.assertEqual(substitutions({"Z": 1}, ["X", "Y"], {}), [])

    def test_lexicographic_order_of_many(self):
        constants = [5, 7, "a"]
        found = substitutions({}, ["Y", "X", "Z"], constants)
        self.assertEqual([(one["Y"], one["X"], one["Z"]) for one in found],
                         list(itertools.product(constants, repeat=3)))

    def test_results_are_separate(self):
        names = {"Z": 1}
        for wanted in ([], ["X"]):
            found = substitutions(names, wanted, [1, 2])
            for one in found:
                self.assertIsNot(one, names)
            found[0]["Q"] = 9
            self.assertEqual(names, {"Z": 1})
            self.assertTrue(all("Q" not in one for one in found[1:]))
            self.assertTrue(all("Q" not in one for one in substitutions(names, wanted, [1, 2])))


class Calls(unittest.TestCase):
    def assert_left_alone(self, function, *arguments):
        kept = copy.deepcopy(arguments)
        first = function(*arguments)
        self.assertEqual(arguments, kept)
        self.assertEqual(function(*arguments), first)
        self.assertEqual(arguments, kept)

    def test_arguments_are_left_alone_and_a_second_call_returns_the_same(self):
        conditions = parse(":- p(X, Y + 1), not q(a), X < Y.")[0][1]
        names = {"X": 1, "Y": 2}
        for constants in ([1, 2, 3, "a"], {1: True, 2: True, 3: True, "a": True}):
            self.assert_left_alone(atom_instance, conditions[0][1], names, constants)
            self.assert_left_alone(conditions_instance, conditions, names, constants)
            self.assert_left_alone(substitutions, names, ["V", "W"], constants)
        self.assert_left_alone(value, conditions[0][1][2][1], names)
        self.assert_left_alone(rank, "a")
        self.assert_left_alone(holds, "<", 1, "a")


if __name__ == "__main__":
    unittest.main()
