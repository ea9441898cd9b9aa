"""The program of a list of statements, and programs with more denies: points 12 and 13."""

import copy
import random
import unittest

import definition
from stablepapers.errors import LimitError, StableError
from stablepapers.parsing import parse
from stablepapers.programs import ground, with_denials

NOTHING = ("range", 1, 0)
FACT = ("rule", ("atom", "z", []), [])


class TestCase(unittest.TestCase):
    def assert_ground(self, text, atoms, rules, costs=()):
        self.assertEqual(ground(parse(text)), ("program", atoms, rules, list(costs)), text)

    def assert_atoms(self, text, *atoms):
        self.assertEqual(ground(parse(text))[1], list(atoms), text)

    def assert_too_many(self, statements):
        with self.assertRaises(LimitError) as caught:
            ground(statements)
        self.assertIsInstance(caught.exception, StableError)


class Ground(TestCase):
    def test_example_of_the_interface(self):
        self.assertEqual(
            ground(parse("b :- not a. minimize {2 : b}.")),
            ("program", [("a", ()), ("b", ())], [("rule", 1, [("no", 0)])], [(2, (1,), ())]),
        )

    def test_empty_text(self):
        self.assert_ground("", [], [])
        self.assert_ground("range 1 3. minimize {X : p(X), X > 3}.", [], [])

    def test_kinds_of_values(self):
        program = ground(parse("{p(1)} 2 :- sum {1 : q} >= 1. minimize {1 : p(1), not q}."))
        self.assertEqual([type(one) for one in program], [str, list, list, list])
        for name, values in program[1]:
            self.assertEqual([type(name), type(values)], [str, tuple])
        for _, _, body in program[2]:
            self.assertIs(type(body), list)
        self.assertEqual(program[3], [(1, (0,), (1,))])

    def test_atoms_are_ordered_by_name(self):
        self.assert_atoms("c. a. b. aB. a_b. ab. b0.",
                          *[(name, ()) for name in ("a", "aB", "a_b", "ab", "b", "b0", "c")])
        self.assert_atoms("q. p(5). r(1, 1).", ("p", (5,)), ("q", ()), ("r", (1, 1)))

    def test_then_by_the_number_of_constants(self):
        self.assert_atoms("p(1, 1). p(a). p(0, 0, 0). p. q. p(9).",
                          ("p", ()), ("p", (9,)), ("p", ("a",)), ("p", (1, 1)), ("p", (0, 0, 0)), ("q", ()))

    def test_then_by_the_constants(self):
        self.assert_atoms("p(b). p(10). p(a). p(9). p(0).",
                          *[("p", (one,)) for one in (0, 9, 10, "a", "b")])
        self.assert_atoms("p(b, 1). p(1, b). p(a, 2). p(a, 1). p(1, 10). p(1, 9). p(a, a).",
                          ("p", (1, 9)), ("p", (1, 10)), ("p", (1, "b")), ("p", ("a", 1)), ("p", ("a", 2)),
                          ("p", ("a", "a")), ("p", ("b", 1)))

    def test_negative_integers(self):
        # The trees of the interface may have what no text has.
        statements = [("rule", ("atom", "p", [("int", one)]), []) for one in (3, -1, 0, -20)]
        self.assertEqual(ground(statements)[1], [("p", (-20,)), ("p", (-1,)), ("p", (0,)), ("p", (3,))])

    def test_numbers_in_rules(self):
        atoms = [("a", ()), ("b", ()), ("c", ()), ("d", ())]
        self.assert_ground("d :- b, not a, c.", atoms, [("rule", 3, [("yes", 1), ("yes", 2), ("no", 0)])])
        self.assert_ground(":- c, not d, a. b.", atoms,
                           [("deny", None, [("yes", 2), ("yes", 0), ("no", 3)]), ("rule", 1, [])])
        self.assert_ground("{d : a; b} :- not c.", atoms,
                           [("choose", 3, [("no", 2), ("yes", 0)]), ("choose", 1, [("no", 2)])])

    def test_numbers_in_rows(self):
        atoms = [("a", ()), ("b", ()), ("c", ()), ("d", ())]
        self.assert_ground(
            "c :- sum {2 : d, not a; 3 : b, d} >= 4. :- sum {1 : not b, not d} <= 5.", atoms,
            [("rule", 2, [("least", 4, [(2, (3,), (0,)), (3, (1, 3), ())])]),
             ("deny", None, [("below", 6, [(1, (), (1, 3))])])],
        )
        self.assert_ground(
            "1 {c : a; b : not d} 1.", atoms,
            [("choose", 2, [("yes", 0)]), ("choose", 1, [("no", 3)]),
             ("deny", None, [("below", 1, [(1, (2, 0), ()), (1, (1,), (3,))])]),
             ("deny", None, [("least", 2, [(1, (2, 0), ()), (1, (1,), (3,))])])],
        )
        self.assert_ground("c. minimize {2 : d, not a, b; 3 : not c}.", atoms, [("rule", 2, [])],
                           [(2, (3, 1), (0,)), (3, (), (2,))])

    def test_atoms_that_occur_in_one_place_alone(self):
        for text in ("a.", "{a}.", ":- a.", ":- not a.", ":- sum {1 : a} >= 1.", ":- sum {1 : not a} <= 1.",
                     "minimize {1 : a}.", "minimize {1 : not a}."):
            self.assert_atoms(text, ("a", ()))
        self.assert_atoms("1 {a : b, not c}.", ("a", ()), ("b", ()), ("c", ()))
        self.assert_atoms("{p : 1 < 0}. minimize {1000 : q}. r :- 1 < 0.")

    def test_rules_that_cannot_be_supported_are_kept(self):
        self.assert_ground("a :- b.", [("a", ()), ("b", ())], [("rule", 0, [("yes", 1)])])

    def test_against_the_definition(self):
        chooser = random.Random(7)
        for _ in range(700):
            text = definition.random_text(chooser)
            self.assertEqual(ground(parse(text)), definition.ground(parse(text)), text)


class Limits(TestCase):
    def test_atoms(self):
        self.assertEqual(len(ground(parse("range 1 200. p(X)."))[1]), 200)
        self.assert_too_many(parse("range 1 201. p(X)."))
        self.assertEqual(len(ground(parse("range 1 199. p(X). q :- p(5)."))[1]), 200)
        for text in ("q :- r.", "q. :- not r.", "q :- sum {1 : r} >= 1.", "q. minimize {1 : not r}.", "1 {q : r}."):
            self.assertEqual(len(ground(parse("range 1 198. p(X). " + text))[1]), 200)
            self.assert_too_many(parse("range 1 199. p(X). " + text))

    def test_equal_atoms_count_once(self):
        self.assertEqual(len(ground(parse("range 1 200. p(X). :- p(X). minimize {1 : p(X)}."))[1]), 200)

    def test_substitutions(self):
        self.assertEqual(ground([NOTHING] * 19999 + [FACT])[1], [("z", ())])
        self.assert_too_many([NOTHING] * 20000 + [FACT])
        self.assert_too_many(parse("range 0 9999. p(A, B, C, D)."))

    def test_rules(self):
        self.assertEqual(len(ground([FACT] * 2000)[2]), 2000)
        self.assert_too_many([FACT] * 2001)

    def test_rows(self):
        members = [("member", ("int", 1), [])]
        self.assertEqual(len(ground([("minimize", members * 6000)])[3]), 6000)
        self.assert_too_many([("minimize", members * 6001)])
        self.assertEqual(len(ground([("deny", [("sum", ">=", members * 6000, ("int", 1))])])[2]), 1)
        self.assert_too_many([("deny", [("sum", ">=", members * 6001, ("int", 1))])])


class WithDenials(unittest.TestCase):
    PROGRAM = ("program", [("a", ()), ("b", ()), ("c", ())],
               [("choose", 0, [("no", 1), ("least", 1, [(1, (2,), ())])]), ("deny", None, [("yes", 2)])],
               [(2, (1,), ())])

    def test_no_bodies(self):
        self.assertEqual(with_denials(self.PROGRAM, []), self.PROGRAM)

    def test_bodies_in_their_order_behind_the_rules(self):
        bodies = [[("yes", 0), ("no", 2)], [], [("least", 3, self.PROGRAM[3])], [("below", 0, [])]]
        self.assertEqual(
            with_denials(self.PROGRAM, bodies),
            ("program", self.PROGRAM[1], self.PROGRAM[2] + [
                ("deny", None, [("yes", 0), ("no", 2)]), ("deny", None, []),
                ("deny", None, [("least", 3, [(2, (1,), ())])]), ("deny", None, [("below", 0, [])]),
            ], self.PROGRAM[3]),
        )

    def test_equal_bodies_are_all_appended(self):
        self.assertEqual(with_denials(self.PROGRAM, [[("yes", 0)]] * 3)[2][2:], [("deny", None, [("yes", 0)])] * 3)

    def test_program_without_atoms_and_rules(self):
        self.assertEqual(with_denials(("program", [], [], []), [[]]), ("program", [], [("deny", None, [])], []))

    def lists_of(self, tree):
        """Return the lists in a tree, at every depth."""
        found = [tree] if isinstance(tree, list) else []
        if isinstance(tree, (list, tuple)):
            for one in tree:
                found.extend(self.lists_of(one))
        return found

    def test_the_result_shares_no_list_with_the_arguments(self):
        program = copy.deepcopy(self.PROGRAM)
        bodies = [[("yes", 0), ("no", 2)], [("least", 3, program[3]), ("below", 1, [(1, (), ())])]]
        kept = copy.deepcopy((program, bodies))
        found = with_denials(program, bodies)
        own = {id(one) for one in self.lists_of(found)}
        self.assertEqual(own & {id(one) for one in self.lists_of((program, bodies))}, set())
        for one in self.lists_of(found):
            one.append("more")
        self.assertEqual((program, bodies), kept)


class Calls(unittest.TestCase):
    def test_arguments_are_left_alone_and_a_second_call_returns_the_same(self):
        statements = parse("1 {p(X) : q(X)} 2 :- sum {X : r(X)} >= 1. range 1 2. minimize {X : p(X)}. q(1). :- r(2).")
        kept = copy.deepcopy(statements)
        first, second = ground(statements), ground(statements)
        self.assertEqual(first, second)
        first[1].clear()
        first[2][0][2].clear()
        first[3].clear()
        self.assertEqual(ground(statements), second)
        self.assertEqual(statements, kept)

    def test_with_denials(self):
        program, bodies = ground(parse("{a; b}. minimize {1 : a}.")), [[("yes", 0)], [("no", 1)]]
        kept = copy.deepcopy((program, bodies))
        self.assertEqual(with_denials(program, bodies), with_denials(program, bodies))
        self.assertEqual((program, bodies), kept)


if __name__ == "__main__":
    unittest.main()
