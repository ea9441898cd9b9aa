"""The written form of terms, atoms, conditions and statements: points 4 and 5."""

import ast
import copy
import random
import unittest

from stablepapers.tokens import tokens
from stablepapers.trees import format_atom, format_condition, format_statement, format_term, format_text

X, Y = ("var", "X"), ("var", "Y")
ONE, TWO, THREE = ("int", 1), ("int", 2), ("int", 3)
P, Q, R = ("atom", "p", []), ("atom", "q", []), ("atom", "r", [])
P_X, Q_X = ("atom", "p", [X]), ("atom", "q", [X])


def op(sign, left, right):
    return ("op", sign, left, right)


def random_term(chooser, depth):
    if depth == 0 or chooser.random() < 0.2:
        return chooser.choice([("int", chooser.randint(0, 9999)), ("sym", "a"), ("var", "B")])
    return op(chooser.choice("+-*"), random_term(chooser, depth - 1), random_term(chooser, depth - 1))


def read_term(node):
    """Return the term of a Python expression: its operators bind and associate as in point 3."""
    if isinstance(node, ast.Constant):
        return ("int", node.value)
    if isinstance(node, ast.Name):
        return ("sym" if node.id.islower() else "var", node.id)
    sign = {ast.Add: "+", ast.Sub: "-", ast.Mult: "*"}[type(node.op)]
    return op(sign, read_term(node.left), read_term(node.right))


class Terms(unittest.TestCase):
    def test_plain_terms(self):
        self.assertEqual(format_term(("int", 0)), "0")
        self.assertEqual(format_term(("int", 9999)), "9999")
        self.assertEqual(format_term(("sym", "a_b9")), "a_b9")
        self.assertEqual(format_term(("var", "X_1")), "X_1")

    def test_operations(self):
        self.assertEqual(format_term(op("+", X, ONE)), "X + 1")
        self.assertEqual(format_term(op("-", X, ("sym", "a"))), "X - a")
        self.assertEqual(format_term(op("*", TWO, X)), "2 * X")

    def test_right_operands_are_in_brackets(self):
        for sign in "+-*":
            for inner in "+-*":
                self.assertEqual(
                    format_term(op(sign, ONE, op(inner, TWO, THREE))), f"1 {sign} (2 {inner} 3)"
                )

    def test_left_sums_and_differences_under_a_product_are_in_brackets(self):
        self.assertEqual(format_term(op("*", op("+", ONE, TWO), THREE)), "(1 + 2) * 3")
        self.assertEqual(format_term(op("*", op("-", ONE, TWO), THREE)), "(1 - 2) * 3")

    def test_sums_and_differences_on_both_sides_of_a_product(self):
        self.assertEqual(
            format_term(op("*", op("+", ONE, TWO), op("-", X, Y))), "(1 + 2) * (X - Y)"
        )
        self.assertEqual(
            format_term(op("*", op("-", ONE, TWO), op("+", X, Y))), "(1 - 2) * (X + Y)"
        )

    def test_no_brackets_around_other_left_operands(self):
        for sign, inner in ("++", "+-", "+*", "-+", "--", "-*", "**"):
            self.assertEqual(
                format_term(op(sign, op(inner, ONE, TWO), THREE)), f"1 {inner} 2 {sign} 3"
            )

    def test_operations_in_operations(self):
        self.assertEqual(
            format_term(op("*", op("*", op("+", X, ONE), TWO), op("*", Y, op("-", TWO, ONE)))),
            "(X + 1) * 2 * (Y * (2 - 1))",
        )
        self.assertEqual(
            format_term(op("-", op("+", op("*", ONE, X), op("+", TWO, Y)), op("*", X, Y))),
            "1 * X + (2 + Y) - (X * Y)",
        )

    def test_long_sums(self):
        term = X
        for _ in range(100):
            term = op("+", term, ONE)
        self.assertEqual(format_term(term), "X" + " + 1" * 100)

    def test_python_reads_the_same_term(self):
        chooser = random.Random(5)
        for _ in range(1000):
            term = random_term(chooser, 5)
            written = format_term(term)
            self.assertEqual(read_term(ast.parse(written, mode="eval").body), term, written)


class Atoms(unittest.TestCase):
    def test_without_terms(self):
        self.assertEqual(format_atom(P), "p")

    def test_with_terms(self):
        self.assertEqual(format_atom(P_X), "p(X)")
        self.assertEqual(format_atom(("atom", "p", [X, ("int", 10), ("sym", "a")])), "p(X, 10, a)")
        self.assertEqual(format_atom(("atom", "p", [ONE, TWO, THREE, X])), "p(1, 2, 3, X)")

    def test_terms_of_an_atom_are_not_in_brackets_of_their_own(self):
        self.assertEqual(
            format_atom(("atom", "p", [op("+", X, ONE), op("*", op("-", X, ONE), TWO)])),
            "p(X + 1, (X - 1) * 2)",
        )


class Conditions(unittest.TestCase):
    def test_yes_and_no(self):
        self.assertEqual(format_condition(("yes", P)), "p")
        self.assertEqual(format_condition(("yes", P_X)), "p(X)")
        self.assertEqual(format_condition(("no", P)), "not p")
        self.assertEqual(format_condition(("no", P_X)), "not p(X)")

    def test_each_comparison(self):
        for sign in ("=", "!=", "<", "<=", ">", ">="):
            self.assertEqual(format_condition(("compare", sign, X, THREE)), f"X {sign} 3")

    def test_operations_beside_a_comparison_are_not_in_brackets(self):
        self.assertEqual(
            format_condition(("compare", "<=", op("+", X, ONE), op("*", TWO, op("-", Y, ONE)))),
            "X + 1 <= 2 * (Y - 1)",
        )


class Statements(unittest.TestCase):
    def assert_written(self, statement, written):
        self.assertEqual(format_statement(statement), written)

    def test_example_of_the_interface(self):
        self.assert_written(
            ("choose", 1, [("choice", ("atom", "p", [X]), [("yes", ("atom", "q", [X]))])], None, []),
            "1 {p(X) : q(X)}.",
        )

    def test_rules(self):
        self.assert_written(("rule", P, []), "p.")
        self.assert_written(("rule", ("atom", "p", [ONE, ("sym", "a")]), []), "p(1, a).")
        self.assert_written(("rule", P, [("yes", Q)]), "p :- q.")
        self.assert_written(
            ("rule", P_X, [("yes", Q_X), ("no", R), ("compare", "!=", X, ONE)]),
            "p(X) :- q(X), not r, X != 1.",
        )

    def test_denies(self):
        self.assert_written(("deny", [("yes", P)]), ":- p.")
        self.assert_written(("deny", [("no", P), ("yes", Q_X)]), ":- not p, q(X).")

    def test_sums(self):
        members = [("member", ONE, []), ("member", op("*", TWO, X), [("yes", P_X), ("no", Q)])]
        self.assert_written(
            ("rule", R, [("sum", ">=", members, THREE)]), "r :- sum {1; 2 * X : p(X), not q} >= 3."
        )
        self.assert_written(
            ("deny", [("sum", "<=", members[:1], op("+", Y, ONE)), ("yes", Q)]), ":- sum {1} <= Y + 1, q."
        )
        self.assert_written(
            ("deny", [("yes", P), ("sum", ">=", members[:1], ONE), ("sum", "<=", members[1:], X)]),
            ":- p, sum {1} >= 1, sum {2 * X : p(X), not q} <= X.",
        )

    def test_bounds_of_choices(self):
        choices = [("choice", P, []), ("choice", Q, [])]
        self.assert_written(("choose", None, choices, None, []), "{p; q}.")
        self.assert_written(("choose", 1, choices, None, []), "1 {p; q}.")
        self.assert_written(("choose", None, choices, 2, []), "{p; q} 2.")
        self.assert_written(("choose", 1, choices, 2, []), "1 {p; q} 2.")
        self.assert_written(("choose", 0, choices, 0, []), "0 {p; q} 0.")

    def test_choices_with_a_body(self):
        choices = [("choice", P_X, [("yes", Q_X), ("compare", "<", X, THREE)]), ("choice", Q, [("no", R)])]
        written = "{p(X) : q(X), X < 3; q : not r}"
        body = [("yes", R), ("no", P)]
        self.assert_written(("choose", None, choices, None, body), written + " :- r, not p.")
        self.assert_written(("choose", 1, choices, None, body), "1 " + written + " :- r, not p.")
        self.assert_written(("choose", None, choices, 2, body), written + " 2 :- r, not p.")
        self.assert_written(("choose", 1, choices, 2, body), "1 " + written + " 2 :- r, not p.")

    def test_one_choice(self):
        self.assert_written(("choose", None, [("choice", P, [])], None, []), "{p}.")

    def test_ranges(self):
        self.assert_written(("range", 1, 5), "range 1 5.")
        self.assert_written(("range", 0, 9999), "range 0 9999.")
        self.assert_written(("range", 7, 0), "range 7 0.")

    def test_minimize(self):
        self.assert_written(("minimize", [("member", TWO, [])]), "minimize {2}.")
        self.assert_written(
            ("minimize", [("member", TWO, [("no", P)]), ("member", op("+", X, ONE), [("yes", Q_X), ("yes", R)])]),
            "minimize {2 : not p; X + 1 : q(X), r}.",
        )
        self.assert_written(
            ("minimize", [("member", X, [("compare", "=", X, op("-", THREE, ONE))]), ("member", ("sym", "a"), [])]),
            "minimize {X : X = 3 - 1; a}.",
        )

    def test_the_written_form_has_the_tokens_of_the_statement(self):
        statement = ("choose", 1, [("choice", P_X, [("yes", Q_X)])], 2, [("sum", "<=", [("member", X, [])], TWO)])
        self.assertEqual(
            [text for _, text, _ in tokens(format_statement(statement))],
            ["1", "{", "p", "(", "X", ")", ":", "q", "(", "X", ")", "}", "2", ":-",
             "sum", "{", "X", "}", "<=", "2", ".", ""],
        )


class Texts(unittest.TestCase):
    def test_no_one_and_several_statements(self):
        rule, deny, span = ("rule", P, []), ("deny", [("yes", P), ("no", Q)]), ("range", 1, 2)
        self.assertEqual(format_text([]), "")
        self.assertEqual(format_text([rule]), "p.\n")
        self.assertEqual(format_text([rule, deny, span]), "p.\n:- p, not q.\nrange 1 2.\n")
        self.assertEqual(format_text([span, span]), "range 1 2.\nrange 1 2.\n")


class Calls(unittest.TestCase):
    def assert_left_alone(self, function, argument):
        kept = copy.deepcopy(argument)
        first = function(argument)
        self.assertIs(type(first), str)
        self.assertEqual(argument, kept)
        self.assertEqual(function(argument), first)
        self.assertEqual(argument, kept)

    def test_arguments_are_left_alone_and_a_second_call_returns_the_same(self):
        term = op("*", op("+", X, ONE), op("-", Y, TWO))
        atom = ("atom", "p", [term, X])
        conditions = [("yes", atom), ("no", Q), ("compare", "<", term, X)]
        members = [("member", term, conditions), ("member", ONE, [])]
        body = conditions + [("sum", ">=", members, term)]
        choices = [("choice", atom, conditions), ("choice", P, [])]
        statements = [
            ("rule", atom, body), ("rule", P, []), ("deny", body), ("choose", 0, choices, 1, body),
            ("choose", None, choices, None, []), ("range", 1, 2), ("minimize", members),
        ]
        self.assert_left_alone(format_term, term)
        self.assert_left_alone(format_atom, atom)
        for condition in conditions:
            self.assert_left_alone(format_condition, condition)
        for statement in statements:
            self.assert_left_alone(format_statement, statement)
        self.assert_left_alone(format_text, statements)


if __name__ == "__main__":
    unittest.main()
