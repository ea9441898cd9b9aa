"""TextError and LimitError from queries about texts: points 6 and 12."""

import unittest

from stablepapers.answers import answer, check_answer
from stablepapers.errors import LimitError, StableError, TextError
from stablepapers.parsing import parse

QUERIES = (("model",), ("all", 0), ("all", 3), ("best",), ("certain", ("a", ())), ("impossible", ("a", ())),
           ("impossible", ("z", (1, "b"))))
GIVEN = (("none", ([], None)), ("model", [], []), ("yes", None), ("more", [], []), ("all", [], ([], ([], None))),
         ("best", 0, [], ([], ([], None))), ("no", [], []))
# Each text with the index at which its fault is.
FAULTS = [
    ("a", 1), ("a :- .", 5), (". a.", 0), ("a. b. c", 7), ("a. b. :- c. d :- , e.", 17), ("a. not b. c.", 3),
    ("a :- b. { : c}.", 10), ("range 1. a.", 7), ("a. b. range 3 x.", 14), ("minimize {}. a.", 10),
    ("a. sum {1} >= 1.", 3), ("a. p(). b.", 5), ("a. p(X :- q(X).", 7), ("a. b :- X. c.", 9), ("a. # b.", 3),
    ("% a", 0), ("a. 00 {b}.", 4), ("a. :- sum {1} = 2.", 14), ("a. A. b.", 3), ("a. b :- not not c.", 12),
    ("a. \n b :- c,\n .", 14), ("a; b.", 1), ("a. b..", 5), ("a. 12345 {b}.", 7), ("a." + " " * 3999, 0),
    ("a. p(((((((((((1))))))))))). b.", 0), ("a. b ?", 5),
]
WORDS = "a :- " + "b, " * 58 + "b"
# Each text at a limit, and one that goes one beyond it.
AT_LIMITS_OF_TEXTS = [
    ("a." + " " * 3998, "a." + " " * 3999),
    ("a." + "\n" * 3998, "a." + "\n" * 3999),
    ("a. " * 60, "a. " * 61),
    ("a(1, 2, 3, 4). b :- not a(1, 2, X, 4).", "a(1, 2, 3, 4). b :- not a(1, 2, X, 4, 5)."),
    (WORDS + ".", WORDS + ", b."),
    ("a. " + WORDS + ".", "a. " + WORDS + " = 1."),
    ("a(" + "(" * 9 + "1" + ")" * 9 + ").", "a(" + "(" * 10 + "1" + ")" * 10 + ")."),
]
SUBSTITUTIONS = "range 1 99. " + "p(X, Y) :- X < Y, Y < X. " * 2 + "q(X) :- X != X. " * 4
RULES = "range 1 44. p :- X = X, Y = Y. q :- X = X. "
ROWS = "range 1 77. minimize {1 : X = X, Y = Y}. minimize {1" + "; 1" * 57 + "}. minimize {1"
SUMS = "range 1 77. :- sum {1 : X = X, Y = Y} >= 9999. :- sum {1" + "; 1" * 56 + "} <= 9. minimize {1"
AT_LIMITS_OF_INSTANCES = [
    (SUBSTITUTIONS + "r.", SUBSTITUTIONS + "r. r."),
    (RULES + "r. " * 20, RULES + "r. " * 21),
    (ROWS + "; 1" * 12 + "}.", ROWS + "; 1" * 13 + "}."),
    (SUMS + "; 1" * 13 + "}.", SUMS + "; 1" * 14 + "}."),
    ("range 1 200. p(X).", "range 1 201. p(X)."),
    ("range 1 199. p(X). minimize {1 : q}.", "range 1 199. p(X). minimize {1 : q; 1 : r}."),
    ("range 1 100. {p(X)}. :- not p(X). q(X).", "range 1 100. {p(X)}. :- not p(X). q(X). r."),
]


class ErrorCase(unittest.TestCase):
    def calls(self, text):
        """Return what answers and checks, one for each query and each form of an answer."""
        found = [lambda query=query: answer(text, query) for query in QUERIES]
        return found + [lambda query=query, given=given: check_answer(text, query, given)
                        for query in QUERIES for given in GIVEN]

    def assert_text_error(self, text, at):
        with self.assertRaises(TextError) as caught:
            parse(text)
        self.assertEqual(caught.exception.at, at)
        for call in self.calls(text):
            with self.assertRaises(TextError) as caught:
                call()
            self.assertEqual(caught.exception.at, at, text)
            self.assertIsInstance(caught.exception, StableError)

    def assert_limit_error(self, text):
        for call in self.calls(text):
            with self.assertRaises(LimitError) as caught:
                call()
            self.assertIsInstance(caught.exception, StableError)
            self.assertNotIsInstance(caught.exception, TextError)

    def assert_answered(self, text):
        """Check that all queries are answered, and that all answers are checked."""
        for query in QUERIES:
            given = answer(text, query)
            self.assertIs(check_answer(text, query, given), True, (text, query))
            for other in GIVEN:
                self.assertIn(check_answer(text, query, other), (True, False))


class Texts(ErrorCase):
    def test_faults_before_and_behind_correct_statements(self):
        for text, at in FAULTS:
            self.assert_text_error(text, at)

    def test_a_fault_behind_many_statements(self):
        before = "a :- not b. {b : c(1)}.\n" * 9
        for text, at in FAULTS[:5]:
            self.assert_text_error(before + text, len(before) + at)

    def test_a_fault_that_stands_before_others(self):
        self.assert_text_error("a. b :- . c :- , d.", 8)
        self.assert_text_error("a. b :- . c :- ?", 15)
        self.assert_text_error("a. p(((((((((((1))))))))))) b :- .", 0)

    def test_limits(self):
        for text, beyond in AT_LIMITS_OF_TEXTS:
            self.assert_answered(text)
            self.assert_text_error(beyond, 0)


class Instances(ErrorCase):
    def test_limits(self):
        for text, beyond in AT_LIMITS_OF_INSTANCES:
            self.assert_answered(text)
            self.assert_limit_error(beyond)

    def test_far_too_many(self):
        for text in ("range 0 9999. p(A, B, C, D) :- q(E, F, G, H).", "range 0 9999. {p(A, B)}.", "range 0 200. p(X)."):
            self.assert_limit_error(text)


class BothFaults(ErrorCase):
    def test_the_text_error_comes_first(self):
        for _, beyond in AT_LIMITS_OF_INSTANCES:
            self.assert_text_error(beyond + " b :- .", len(beyond) + 6)
            self.assert_text_error(beyond + " b", len(beyond) + 2)
            self.assert_text_error(". " + beyond, 0)
            self.assert_text_error("a. ? " + beyond, 3)
            self.assert_text_error(beyond + " " * 4000, 0)
            self.assert_text_error(beyond + " s(1, 2, 3, 4, 5).", 0)


if __name__ == "__main__":
    unittest.main()
