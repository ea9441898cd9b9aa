"""Variables, plain rules, cost rows and their limits: points 8 and 10 to 12."""

import copy
import random
import unittest

import definition
from stablepapers.errors import LimitError, StableError
from stablepapers.parsing import parse
from stablepapers.plain import global_variables, local_variables, plain_rules

NOTHING = ("range", 1, 0)
FACT = ("rule", ("atom", "z", []), [])


def atom(name, *values):
    return (name, values)


def yes(name, *values):
    return ("yes", (name, values))


def no(name, *values):
    return ("no", (name, values))


def row(weight, some, none=()):
    return (weight, tuple(some), tuple(none))


class TestCase(unittest.TestCase):
    def assert_plain(self, text, rules, costs=()):
        self.assertEqual(plain_rules(parse(text)), (rules, list(costs)), text)

    def assert_too_many(self, statements):
        with self.assertRaises(LimitError) as caught:
            plain_rules(statements)
        self.assertIsInstance(caught.exception, StableError)


class GlobalVariables(unittest.TestCase):
    def assert_globals(self, text, *names):
        found = global_variables(parse(text)[0])
        self.assertIs(type(found), list)
        self.assertEqual(found, list(names), text)

    def test_rules(self):
        self.assert_globals("p.")
        self.assert_globals("p(X, Y, X).", "X", "Y")
        self.assert_globals("p(Y) :- q(X, Y), not r(Z), W < X, s(V).", "Y", "X", "Z", "W", "V")
        self.assert_globals("p(1, a) :- q(B + C * A).", "B", "C", "A")

    def test_head_is_before_the_body(self):
        self.assert_globals("p(B) :- q(A), r(B).", "B", "A")

    def test_each_kind_of_condition(self):
        self.assert_globals(":- p(X).", "X")
        self.assert_globals(":- not p(X).", "X")
        self.assert_globals(":- X = Y.", "X", "Y")
        self.assert_globals(":- 3 * (Y - 1) <= X + Z.", "Y", "X", "Z")

    def test_sums(self):
        self.assert_globals(":- sum {X : p(X, Y)} >= Z.", "Z")
        self.assert_globals(":- sum {X : p(X)} <= 3.")
        self.assert_globals("p(A) :- sum {B : q(C)} >= D + E, r(F, C), sum {1} <= A.", "A", "D", "E", "F", "C")
        self.assert_globals(":- p(X), sum {Y : q(X, Y)} >= X.", "X")

    def test_choose(self):
        self.assert_globals("{p(X) : q(X)}.")
        self.assert_globals("1 {p(X, Y); r(Z) : q(W)} 2 :- s(Y), not t(X), sum {Z} >= V.", "Y", "X", "V")

    def test_range_and_minimize(self):
        self.assert_globals("range 1 2.")
        self.assert_globals("minimize {X : p(X, Y)}.")

    def test_against_the_definition(self):
        chooser = random.Random(5)
        for _ in range(500):
            for statement in parse(definition.random_text(chooser)):
                names = definition.globals_of(statement)
                self.assertEqual(global_variables(statement), names)
                for part in definition.parts_of(statement):
                    self.assertEqual(local_variables(part, names), definition.locals_of(part, names))


class LocalVariables(unittest.TestCase):
    def assert_locals(self, written, known, *names):
        for text in (f"{{{written}}}.", f"minimize {{{written}}}."):
            statement = parse(text)[0]
            part = statement[2][0] if statement[0] == "choose" else statement[1][0]
            found = local_variables(part, known)
            self.assertIs(type(found), list)
            self.assertEqual(found, list(names), text)

    def test_choices(self):
        choice = parse("{p(Y, X, Y) : q(Z, X), not r(W), V < U, Y = 1}.")[0][2][0]
        self.assertEqual(local_variables(choice, []), ["Y", "X", "Z", "W", "V", "U"])
        self.assertEqual(local_variables(choice, ["X", "W", "Q"]), ["Y", "Z", "V", "U"])
        self.assertEqual(local_variables(choice, ["X", "Y", "Z", "U", "V", "W"]), [])

    def test_members(self):
        member = parse("minimize {B * A + 1 : q(C, A), not r(D), E != B}.")[0][1][0]
        self.assertEqual(local_variables(member, []), ["B", "A", "C", "D", "E"])
        self.assertEqual(local_variables(member, ["E", "A"]), ["B", "C", "D"])

    def test_parts_without_conditions_or_variables(self):
        self.assert_locals("p", [])
        self.assert_locals("p : q(1), a < 2", ["X"])


class Rules(TestCase):
    def test_example_of_the_interface(self):
        self.assert_plain(
            "1 {p(X) : q(X)} :- not r. q(a).",
            [("choose", ("p", ("a",)), [("no", ("r", ())), ("yes", ("q", ("a",)))]),
             ("deny", None, [("no", ("r", ())), ("below", 1, [(1, (("p", ("a",)), ("q", ("a",))), ())])]),
             ("rule", ("q", ("a",)), [])],
        )

    def test_kinds_of_values(self):
        found = plain_rules(parse("1 {p(X) : q(X)} :- sum {1 : r} >= 1. q(a). minimize {1 : q(a)}."))
        self.assertEqual([type(found), type(found[0]), type(found[1])], [tuple, list, list])
        for kind, head, body in found[0]:
            self.assertEqual([type(kind), type(body)], [str, list])
            self.assertIn(type(head), (tuple, type(None)))

    def test_no_statements(self):
        self.assert_plain("", [])
        self.assert_plain("range 1 3.", [])

    def test_rules_without_variables(self):
        self.assert_plain("p. q :- p, not r.", [("rule", atom("p"), []), ("rule", atom("q"), [yes("p"), no("r")])])
        self.assert_plain("p. p.", [("rule", atom("p"), [])] * 2)

    def test_yes_atoms_are_before_no_atoms_and_those_before_sums(self):
        self.assert_plain(
            "p :- sum {1 : a} >= 1, not b, c, 1 < 2, sum {2} <= 5, not d, e, not b, c.",
            [("rule", atom("p"), [yes("c"), yes("e"), yes("c"), no("b"), no("d"), no("b"),
                                  ("least", 1, [row(1, [atom("a")])]), ("below", 6, [row(2, [])])])],
        )

    def test_denies(self):
        self.assert_plain(":- p, not q.", [("deny", None, [yes("p"), no("q")])])
        self.assert_plain("range 1 2. :- p(X), not q(X).", [
            ("deny", None, [yes("p", 1), no("q", 1)]), ("deny", None, [yes("p", 2), no("q", 2)])])

    def test_rules_with_a_variable(self):
        self.assert_plain("p(X) :- q(X). q(b). q(a).", [
            ("rule", atom("p", "a"), [yes("q", "a")]), ("rule", atom("p", "b"), [yes("q", "b")]),
            ("rule", atom("q", "b"), []), ("rule", atom("q", "a"), [])])
        self.assert_plain("p(X). q(b, 2) :- q(10, a).", [
            ("rule", atom("p", one), []) for one in (2, 10, "a", "b")
        ] + [("rule", atom("q", "b", 2), [yes("q", 10, "a")])])

    def test_no_constants(self):
        self.assert_plain("p(X) :- q(X). p. {q(X) : r(X)}. :- not p(X).", [("rule", atom("p"), [])])

    def test_several_variables_in_lexicographic_order(self):
        pairs = [(1, 1), (1, 2), (1, "a"), (2, 1), (2, 2), (2, "a"), ("a", 1), ("a", 2), ("a", "a")]
        self.assert_plain("p(X, Y). range 1 2. :- a = a.",
                          [("rule", atom("p", x, y), []) for x, y in pairs] + [("deny", None, [])])
        # The variables are ordered by their first occurrence, not by their names.
        self.assert_plain(":- p(Y, X). range 1 2. :- a = a.",
                          [("deny", None, [yes("p", y, x)]) for y, x in pairs] + [("deny", None, [])])
        self.assert_plain(":- Y != X, not p(X, Y). range 1 3.", [
            ("deny", None, [no("p", x, y)]) for y in (1, 2, 3) for x in (1, 2, 3) if x != y])
        self.assert_plain("p(X) :- q(Y, X). range 1 2.", [
            ("rule", atom("p", x), [yes("q", y, x)]) for x in (1, 2) for y in (1, 2)])

    def test_heads_and_conditions_need_instances(self):
        self.assert_plain("p(X + 1) :- q(X). range 1 3.", [
            ("rule", atom("p", x + 1), [yes("q", x)]) for x in (1, 2)])
        self.assert_plain("p(X) :- q(X - 1), not q(X + 1). range 1 4.", [
            ("rule", atom("p", x), [yes("q", x - 1), no("q", x + 1)]) for x in (2, 3)])
        self.assert_plain("p(X + 0). q(a).", [("rule", atom("p", 0), []), ("rule", atom("q", "a"), [])])
        self.assert_plain("p :- 2 < 1. p(1 - 2).", [])

    def test_comparisons(self):
        self.assert_plain("p(X) :- 2 <= X, X != a, X < 9. range 1 3. q(b).", [
            ("rule", atom("p", 2), []), ("rule", atom("p", 3), []), ("rule", atom("q", "b"), [])])
        self.assert_plain("p(X, Y) :- X = Y + 1. range 1 3.", [
            ("rule", atom("p", 2, 1), []), ("rule", atom("p", 3, 2), [])])


class Sums(TestCase):
    def test_both_signs(self):
        rows = [row(2, [atom("p")]), row(3, [], [atom("q")])]
        self.assert_plain(":- sum {2 : p; 3 : not q} >= 4.", [("deny", None, [("least", 4, rows)])])
        self.assert_plain(":- sum {2 : p; 3 : not q} <= 4.", [("deny", None, [("below", 5, rows)])])

    def test_bounds(self):
        self.assert_plain(":- sum {1} >= 1 - 3.", [("deny", None, [("least", -2, [row(1, [])])])])
        self.assert_plain(":- sum {1} <= 1 - 3.", [("deny", None, [("below", -1, [row(1, [])])])])
        self.assert_plain(":- sum {1} >= 9999 * 9999.", [("deny", None, [("least", 9999 * 9999, [row(1, [])])])])
        self.assert_plain(":- sum {1} <= 0.", [("deny", None, [("below", 1, [row(1, [])])])])

    def test_bounds_without_an_integer_value(self):
        self.assert_plain(":- sum {1} >= a. :- sum {1} <= a + 1. :- sum {1} >= 1, sum {1} <= b.", [])
        self.assert_plain("p(X) :- sum {1} >= X. q(a, 2).", [
            ("rule", atom("p", 2), [("least", 2, [row(1, [])])]), ("rule", atom("q", "a", 2), [])])

    def test_bound_as_a_global_variable(self):
        self.assert_plain(":- sum {1} <= X. range 3 4.", [
            ("deny", None, [("below", 4, [row(1, [])])]), ("deny", None, [("below", 5, [row(1, [])])])])

    def test_order_of_rows(self):
        self.assert_plain(
            ":- sum {5; X : p(X, Y), not q(Y); 7 : r} >= 0. range 1 2.",
            [("deny", None, [("least", 0, [
                row(5, []),
                row(1, [atom("p", 1, 1)], [atom("q", 1)]), row(1, [atom("p", 1, 2)], [atom("q", 2)]),
                row(2, [atom("p", 2, 1)], [atom("q", 1)]), row(2, [atom("p", 2, 2)], [atom("q", 2)]),
                row(7, [atom("r")]),
            ])])],
        )

    def test_local_variables_are_those_of_one_member(self):
        self.assert_plain(
            ":- p(X), sum {1 : q(X, Y); 2 : r(Y)} <= 3. range 1 2.",
            [("deny", None, [yes("p", x), ("below", 4, [
                row(1, [atom("q", x, 1)]), row(1, [atom("q", x, 2)]), row(2, [atom("r", 1)]), row(2, [atom("r", 2)]),
            ])]) for x in (1, 2)],
        )

    def test_weights(self):
        for text, weight in (("0", 0), ("1", 1), ("999", 999), ("1000", None), ("9999", None), ("0 - 1", None),
                             ("3 - 3", 0), ("500 + 499", 999), ("500 * 2", None), ("a", None), ("a + 1", None)):
            rows = [] if weight is None else [row(weight, [atom("p")])]
            self.assert_plain(f":- sum {{{text} : p}} >= 1.", [("deny", None, [("least", 1, rows)])])
            self.assert_plain(f"minimize {{{text} : p}}.", [], rows)

    def test_weights_of_variables(self):
        self.assert_plain("minimize {X : p(X)}. range 998 1001. :- a = a.", [("deny", None, [])],
                          [row(998, [atom("p", 998)]), row(999, [atom("p", 999)])])
        self.assert_plain("minimize {X - 2 : p(X)}. range 1 3.", [], [row(0, [atom("p", 2)]), row(1, [atom("p", 3)])])

    def test_a_weight_need_not_be_in_the_universe(self):
        self.assert_plain("minimize {100 * X : p(X)}. range 1 2.", [],
                          [row(100, [atom("p", 1)]), row(200, [atom("p", 2)])])

    def test_conditions_of_members(self):
        self.assert_plain("minimize {1 : p(X + 1), X != 1; 2 : not p(X - 1)}. range 1 3.", [],
                          [row(1, [atom("p", 3)]), row(2, [], [atom("p", 1)]), row(2, [], [atom("p", 2)])])
        self.assert_plain("minimize {1 : not r, p, not q, q, p}.", [],
                          [row(1, [atom("p"), atom("q"), atom("p")], [atom("r"), atom("q")])])

    def test_equal_rows_are_counted_as_often_as_they_occur(self):
        self.assert_plain("minimize {1; 1; 1 : X = X}. range 1 3.", [], [row(1, [])] * 5)
        self.assert_plain(":- sum {2 : p, X < 3; 2 : p} >= 1. range 1 3.", [
            ("deny", None, [("least", 1, [row(2, [atom("p")])] * 3)])])

    def test_no_rows(self):
        self.assert_plain(":- sum {a} >= 0.", [("deny", None, [("least", 0, [])])])
        self.assert_plain("minimize {X : p(X)}.", [])


class CostRows(TestCase):
    def test_several_minimize_statements(self):
        self.assert_plain("minimize {1 : p}. q. minimize {2; 3 : not q}. range 1 2. minimize {X}.",
                          [("rule", atom("q"), [])],
                          [row(1, [atom("p")]), row(2, []), row(3, [], [atom("q")]), row(1, []), row(2, [])])


class Chooses(TestCase):
    def test_no_bounds(self):
        self.assert_plain("{p; q}.", [("choose", atom("p"), []), ("choose", atom("q"), [])])
        self.assert_plain("{p} :- q, not r.", [("choose", atom("p"), [yes("q"), no("r")])])

    def test_bounds(self):
        rows = [row(1, [atom("p")]), row(1, [atom("q")])]
        chosen = [("choose", atom("p"), [yes("r")]), ("choose", atom("q"), [yes("r")])]
        low = ("deny", None, [yes("r"), ("below", 1, rows)])
        high = ("deny", None, [yes("r"), ("least", 2, rows)])
        self.assert_plain("{p; q} :- r.", chosen)
        self.assert_plain("1 {p; q} :- r.", [*chosen, low])
        self.assert_plain("{p; q} 1 :- r.", [*chosen, high])
        self.assert_plain("1 {p; q} 1 :- r.", [*chosen, low, high])

    def test_bounds_of_0(self):
        self.assert_plain("0 {p} 0.", [("choose", atom("p"), []), ("deny", None, [("below", 0, [row(1, [atom("p")])])]),
                                       ("deny", None, [("least", 1, [row(1, [atom("p")])])])])

    def test_conditions_of_choices(self):
        self.assert_plain(
            "{p : not s, q, not r, a < b} 2 :- not t, u, sum {1} >= 0.",
            [("choose", atom("p"), [yes("u"), no("t"), ("least", 0, [row(1, [])]), yes("q"), no("s"), no("r")]),
             ("deny", None, [yes("u"), no("t"), ("least", 0, [row(1, [])]),
                             ("least", 3, [row(1, [atom("p"), atom("q")], [atom("s"), atom("r")])])])],
        )

    def test_local_variables_in_order(self):
        self.assert_plain(
            "{p(Y, X); q(Y) : not r(X)}. range 1 2.",
            [("choose", atom("p", y, x), []) for y in (1, 2) for x in (1, 2)]
            + [("choose", atom("q", y), [no("r", x)]) for y in (1, 2) for x in (1, 2)],
        )

    def test_global_variables_are_outside_and_bounds_come_once_for_each_of_their_substitutions(self):
        rules = []
        for x in (1, 2):
            rows = [row(1, [atom("p", x, y), atom("q", y)]) for y in (1, 2)]
            rules += [("choose", atom("p", x, y), [yes("r", x), yes("q", y)]) for y in (1, 2)]
            rules.append(("deny", None, [yes("r", x), ("below", 1, rows)]))
            rules.append(("deny", None, [yes("r", x), ("least", 3, rows)]))
        self.assert_plain("1 {p(X, Y) : q(Y)} 2 :- r(X). range 1 2.", rules)

    def test_instances_of_choices(self):
        self.assert_plain("1 {p(X + 1) : X < 3; q : r(X - 1)}. range 1 3.", [
            ("choose", atom("p", 2), []), ("choose", atom("p", 3), []),
            ("choose", atom("q"), [yes("r", 1)]), ("choose", atom("q"), [yes("r", 2)]),
            ("deny", None, [("below", 1, [row(1, [atom("p", 2)]), row(1, [atom("p", 3)]),
                                          row(1, [atom("q"), atom("r", 1)]), row(1, [atom("q"), atom("r", 2)])])])])

    def test_equal_instances_are_counted_as_often_as_they_occur(self):
        self.assert_plain("{p; p : X = X} 1. range 1 2.", [("choose", atom("p"), [])] * 3 + [
            ("deny", None, [("least", 2, [row(1, [atom("p")])] * 3)])])

    def test_no_instances(self):
        self.assert_plain("1 {p(X)} 2.", [("deny", None, [("below", 1, [])]), ("deny", None, [("least", 3, [])])])
        self.assert_plain("{p : 1 < 0}.", [])

    def test_a_variable_of_a_choice_and_of_a_member_are_two(self):
        self.assert_plain("{p(X)} :- sum {X : q(X)} >= 1. range 1 2.", [
            ("choose", atom("p", x), [("least", 1, [row(1, [atom("q", 1)]), row(2, [atom("q", 2)])])]) for x in (1, 2)])


class AgainstTheDefinition(TestCase):
    def test_random_texts(self):
        chooser = random.Random(6)
        rules = costs = 0
        for _ in range(1500):
            text = definition.random_text(chooser)
            expected = definition.plain_rules(parse(text))
            self.assertEqual(plain_rules(parse(text)), expected, text)
            rules += len(expected[0])
            costs += len(expected[1])
        self.assertGreater(rules, 3000)
        self.assertGreater(costs, 300)


class Limits(TestCase):
    def assert_substitutions(self, text, many):
        """Check a text's number of substitutions by filling up to the limit; no rule of it has an instance."""
        statements = parse(text)
        self.assertLess(many, 20000)
        self.assertEqual(plain_rules(statements + [NOTHING] * (20000 - many))[0], [])
        self.assert_too_many(statements + [NOTHING] * (20001 - many))

    def test_substitutions_of_a_text(self):
        text = ("range 1 99. " + "p(X, Y) :- X < Y, Y < X. " * 2 + "q(X) :- X != X. " * 4)
        self.assertEqual(plain_rules(parse(text + "r."))[0], [("rule", atom("r"), [])])
        self.assert_too_many(parse(text + "r. r."))

    def test_substitutions_of_statements(self):
        self.assert_substitutions("", 0)
        self.assert_substitutions("range 1 7.", 1)
        self.assert_substitutions("range 1 7. :- X < X.", 1 + 7)
        self.assert_substitutions("range 1 7. p(X, Y) :- q(Z), X < X.", 1 + 343)
        self.assert_substitutions("range 1 7. minimize {0 - 1}.", 1 + 2)
        self.assert_substitutions("range 1 7. minimize {0 - 1 : p(X); 0 - X : q(X, Y); Z - 8}.", 1 + 1 + 7 + 49 + 7)

    def test_substitutions_of_choices_and_members(self):
        self.assert_substitutions("range 1 7. {p : 2 < 1}.", 1 + 2)
        self.assert_substitutions("range 1 7. {p(X) : X < X; q(X, Y) : X < X}.", 1 + 1 + 7 + 49)
        self.assert_substitutions("range 1 7. {p(X) : X < X; q(X, Y) : X < X} :- r(X).", 1 + 7 * (1 + 1 + 7))
        self.assert_substitutions("range 1 7. :- 1 > 1, sum {1; X : p(X)} >= 2.", 1 + 1 + 1 + 7)
        self.assert_substitutions(":- 1 > 2, sum {X : p(X)} >= 2, sum {1 : X < Y} <= 3.", 1 + 2 + 4)
        self.assert_substitutions("range 1 7. :- X > X, sum {X : p(X, Y)} >= Z.", 1 + 49 * (1 + 7))
        self.assert_substitutions("range 1 7. {p(X, Y)} :- X > X, sum {X : p(Y, Z)} >= 2.", 1 + 7 * (1 + 7 + 49))

    def test_substitutions_without_constants(self):
        # There is one substitution of no variables, and none of some.
        self.assert_substitutions("p(X).", 0)
        self.assert_substitutions("{p(X)}.", 1)
        self.assert_substitutions("minimize {X}.", 1)
        self.assert_substitutions("{p(X)} :- q(Y).", 0)

    def test_far_too_many_substitutions(self):
        self.assert_too_many(parse("range 0 9999. p(A, B, C, D) :- q(E, F, G, H), r(I, J, K, L)."))
        self.assert_too_many(parse("range 0 9999. range 5 9. {p(A, B)}."))
        self.assert_too_many(parse("range 0 9999. minimize {A : p(A, B)}."))
        self.assert_too_many(parse("range 0 9999. p(X) :- X < 1. q(X) :- X < 1."))

    def test_rules(self):
        self.assertEqual(len(plain_rules([FACT] * 2000)[0]), 2000)
        self.assert_too_many([FACT] * 2001)
        text = "range 1 44. p(X, Y). q(X). "
        self.assertEqual(len(plain_rules(parse(text + "r. " * 20))[0]), 2000)
        self.assert_too_many(parse(text + "r. " * 21))
        choose = "range 1 10. 1 {p(X, Y) : q(Y)} 2 :- r(X). "
        self.assertEqual(len(plain_rules(parse(choose) + [FACT] * 1880)[0]), 2000)
        self.assert_too_many(parse(choose) + [FACT] * 1881)

    def costs(self, many):
        return ("minimize", [("member", ("int", 1), [])] * many)

    def test_cost_rows(self):
        self.assertEqual(len(plain_rules([self.costs(6000)])[1]), 6000)
        self.assert_too_many([self.costs(6001)])
        self.assertEqual(len(plain_rules([self.costs(1000), self.costs(5000)])[1]), 6000)
        self.assert_too_many([self.costs(1000), self.costs(5001)])

    def test_rows(self):
        # The rows of a sum count in each body in which they stand, those of the bounds of a choose also.
        for text, many in (("range 1 10. :- sum {X : p(X)} >= 1.", 10),
                           ("range 1 10. q(Y) :- sum {X : p(X); 1} <= 1.", 110),
                           (":- sum {1; 2} >= 1, sum {1} <= 2.", 3),
                           ("range 1 10. {p(X)}.", 0), ("range 1 10. 1 {p(X)}.", 10), ("range 1 10. {p(X)} 1.", 10),
                           ("range 1 10. 1 {p(X)} 2 :- q(Y).", 200), ("{p; q; r} :- sum {1; 2} >= 1.", 6),
                           ("0 {p; q; r} 3 :- sum {1; 2} >= 1.", 10 + 6), ("minimize {1; a; 1000; 0 - 1}.", 1)):
            statements = parse(text)
            found = plain_rules(statements + [self.costs(6000 - many)])
            self.assertEqual(definition.count_rows(found[0]) + len(found[1]), 6000, text)
            self.assert_too_many(statements + [self.costs(6001 - many)])

    def test_rows_without_costs(self):
        statements = parse("range 1 77. :- sum {1 : p(X, Y)} >= 1. :- sum {1" + "; 1" * 56 + "} >= 1.")
        last = parse(":- sum {1" + "; 1" * 13 + "} >= 1.")
        more = parse(":- sum {1" + "; 1" * 14 + "} >= 1.")
        self.assertEqual(definition.count_rows(plain_rules(statements + last)[0]), 6000)
        self.assert_too_many(statements + more)

    def test_many_atoms_are_no_limit_of_plain_rules(self):
        self.assertEqual(len(plain_rules(parse("range 1 1000. p(X)."))[0]), 1000)


class Calls(unittest.TestCase):
    def test_arguments_are_left_alone_and_a_second_call_returns_the_same(self):
        statements = parse("1 {p(X) : q(X)} 2 :- sum {X : r(X)} >= 1, not s(Y). range 1 2. minimize {X : p(X)}. "
                           "q(X) :- r(X). :- p(1).")
        kept = copy.deepcopy(statements)
        first = plain_rules(statements)
        second = plain_rules(statements)
        self.assertEqual(first, second)
        self.assertEqual(statements, kept)
        first[0][0][2].append("more")
        first[0].clear()
        first[1].clear()
        self.assertEqual(plain_rules(statements), second)
        self.assertEqual(statements, kept)

    def test_variables_are_found_again(self):
        statement = parse("{p(X, Y) : q(Z)} :- r(X).")[0]
        kept = copy.deepcopy(statement)
        names = global_variables(statement)
        self.assertEqual(names, ["X"])
        self.assertEqual(local_variables(statement[2][0], names), ["Y", "Z"])
        self.assertEqual(names, ["X"])
        local_variables(statement[2][0], names).append("W")
        global_variables(statement).append("W")
        self.assertEqual(global_variables(statement), ["X"])
        self.assertEqual(local_variables(statement[2][0], names), ["Y", "Z"])
        self.assertEqual(statement, kept)

    def test_results_share_no_list_with_the_arguments(self):
        names = []
        self.assertIsNot(local_variables(("choice", ("atom", "p", []), []), names), names)


if __name__ == "__main__":
    unittest.main()
