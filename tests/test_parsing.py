"""The statements of a text: points 3 and 4, point 5 for `parse`, and point 6."""

import itertools
import random
import unittest

from stablepapers.errors import StableError, TextError
from stablepapers.parsing import parse
from stablepapers.tokens import tokens
from stablepapers.trees import format_text

X, Y = ("var", "X"), ("var", "Y")
A, B, C = ("sym", "a"), ("sym", "b"), ("sym", "c")
ONE, TWO, THREE = ("int", 1), ("int", 2), ("int", 3)
RELATIONS = ("=", "!=", "<", "<=", ">", ">=")
KEYWORDS = ("not", "sum", "minimize", "range")


def op(sign, left, right):
    return ("op", sign, left, right)


def atom(name, *terms):
    return ("atom", name, list(terms))


def yes(name, *terms):
    return ("yes", atom(name, *terms))


def no(name, *terms):
    return ("no", atom(name, *terms))


def compare(sign, left, right):
    return ("compare", sign, left, right)


P, Q, R = atom("p"), atom("q"), atom("r")

# The grammar of point 3, a second time. A word in capitals is a kind of token, what has no rule is a sign or keyword.
GRAMMAR = {
    "text": [[], ["statement", "text"]],
    "statement": [["head", "."], ["head", ":-", "body", "."], [":-", "body", "."], ["range", "INT", "INT", "."],
                  ["minimize", "{", "members", "}", "."]],
    "head": [["atom"], ["bound", "{", "choices", "}", "bound"]],
    "bound": [[], ["INT"]],
    "choices": [["choice"], ["choice", ";", "choices"]],
    "choice": [["atom"], ["atom", ":", "conditions"]],
    "members": [["member"], ["member", ";", "members"]],
    "member": [["term"], ["term", ":", "conditions"]],
    "conditions": [["condition"], ["condition", ",", "conditions"]],
    "body": [["part"], ["part", ",", "body"]],
    "part": [["condition"], ["sum", "{", "members", "}", ">=", "term"], ["sum", "{", "members", "}", "<=", "term"]],
    "condition": [["atom"], ["not", "atom"]] + [["term", sign, "term"] for sign in RELATIONS],
    "atom": [["NAME"], ["NAME", "(", "terms", ")"]],
    "terms": [["term"], ["term", ",", "terms"]],
    "term": [["product"], ["term", "+", "product"], ["term", "-", "product"]],
    "product": [["factor"], ["product", "*", "factor"]],
    "factor": [["INT"], ["NAME"], ["VAR"], ["(", "term", ")"]],
}


def symbol_of(token):
    kind, text, _ = token
    if kind == "sign" or text in KEYWORDS:
        return text
    return kind.upper()


def closure(charts, at):
    """Add to a column of Earley's charts what its items predict and complete."""
    column = charts[at]
    waiting = list(column)
    while waiting:
        name, body, dot, begin = waiting.pop()
        if dot < len(body):
            new = [(body[dot], tuple(rule), 0, at) for rule in GRAMMAR.get(body[dot], ())]
            # A rule without any word is complete where it is predicted.
            if [] in GRAMMAR.get(body[dot], ()):
                new.append((name, body, dot + 1, begin))
        else:
            new = [(outer, rest, place + 1, start) for outer, rest, place, start in list(charts[begin])
                   if place < len(rest) and rest[place] == name]
        for item in new:
            if item not in column:
                column.add(item)
                waiting.append(item)


def place_by_charts(text):
    """Return the index of the first token that no text of the grammar has behind the earlier ones, or None."""
    charts = [{("all", ("text",), 0, 0)}]
    closure(charts, 0)
    for token in tokens(text):
        if token[0] == "end":
            finished = ("all", ("text",), 1, 0) in charts[-1]
            return None if finished else token[2]
        charts.append({
            (name, body, dot + 1, begin) for name, body, dot, begin in charts[-1]
            if dot < len(body) and body[dot] == symbol_of(token)
        })
        if not charts[-1]:
            return token[2]
        closure(charts, len(charts) - 1)


class TestCase(unittest.TestCase):
    def assert_parsed(self, text, *statements):
        self.assertEqual(parse(text), list(statements), text)

    def assert_place(self, text, at):
        with self.assertRaises(TextError) as caught:
            parse(text)
        self.assertIsInstance(caught.exception, StableError)
        self.assertEqual(caught.exception.at, at, repr(text))

    def assert_fails_at_mark(self, marked):
        """Check the place of the error of a text in which `@` stands directly before it."""
        self.assert_place(marked.replace("@", ""), marked.index("@"))


class Statements(TestCase):
    def test_examples_of_the_interface(self):
        self.assert_parsed(
            "p(X + 1) :- q(X), X < 3.",
            ("rule", ("atom", "p", [("op", "+", ("var", "X"), ("int", 1))]),
             [("yes", ("atom", "q", [("var", "X")])), ("compare", "<", ("var", "X"), ("int", 3))]),
        )
        with self.assertRaises(TextError):
            parse("p :- .")

    def test_text_without_statements(self):
        for text in ("", " ", "\n \n"):
            self.assert_parsed(text)

    def test_several_statements(self):
        self.assert_parsed("p. q.r.\n:- p.", ("rule", P, []), ("rule", Q, []), ("rule", R, []), ("deny", [yes("p")]))
        self.assert_parsed("p. p.", ("rule", P, []), ("rule", P, []))

    def test_rules(self):
        self.assert_parsed("p.", ("rule", P, []))
        self.assert_parsed("p(1, a, X).", ("rule", atom("p", ONE, A, X), []))
        self.assert_parsed("p :- q.", ("rule", P, [yes("q")]))
        self.assert_parsed("p :- q, not r, 1 < 2.", ("rule", P, [yes("q"), no("r"), compare("<", ONE, TWO)]))

    def test_denies(self):
        self.assert_parsed(":- p.", ("deny", [yes("p")]))
        self.assert_parsed(":- not p, q.", ("deny", [no("p"), yes("q")]))

    def test_ranges(self):
        self.assert_parsed("range 1 5.", ("range", 1, 5))
        self.assert_parsed("range 9999 0.", ("range", 9999, 0))

    def test_minimize(self):
        self.assert_parsed("minimize {1}.", ("minimize", [("member", ONE, [])]))
        self.assert_parsed(
            "minimize {2 : p; X : q(X), not r; a + 1}.",
            ("minimize", [("member", TWO, [yes("p")]), ("member", X, [yes("q", X), no("r")]),
                          ("member", op("+", A, ONE), [])]),
        )

    def test_bounds_of_choices(self):
        one = [("choice", P, [])]
        self.assert_parsed("{p}.", ("choose", None, one, None, []))
        self.assert_parsed("1 {p}.", ("choose", 1, one, None, []))
        self.assert_parsed("{p} 2.", ("choose", None, one, 2, []))
        self.assert_parsed("1 {p} 2.", ("choose", 1, one, 2, []))
        self.assert_parsed("0 {p} 0.", ("choose", 0, one, 0, []))

    def test_choices(self):
        self.assert_parsed(
            "{p; q(X) : r(X), not p, X != 1; r : a = b}.",
            ("choose", None, [("choice", P, []),
                              ("choice", atom("q", X), [yes("r", X), no("p"), compare("!=", X, ONE)]),
                              ("choice", R, [compare("=", A, B)])], None, []),
        )

    def test_choices_with_a_body(self):
        one = [("choice", P, [])]
        self.assert_parsed("{p} :- q.", ("choose", None, one, None, [yes("q")]))
        self.assert_parsed("1 {p} :- q.", ("choose", 1, one, None, [yes("q")]))
        self.assert_parsed("{p} 2 :- q.", ("choose", None, one, 2, [yes("q")]))
        self.assert_parsed("1 {p} 2 :- q, not r.", ("choose", 1, one, 2, [yes("q"), no("r")]))

    def test_sums(self):
        one = [("member", ONE, [])]
        self.assert_parsed(":- sum {1} >= 2.", ("deny", [("sum", ">=", one, TWO)]))
        self.assert_parsed(":- sum {1} <= X + 2.", ("deny", [("sum", "<=", one, op("+", X, TWO))]))
        self.assert_parsed(
            "r :- sum {X : p(X), not q; 2 * Y : Y < 3} >= (1), q, sum {1} <= a.",
            ("rule", R, [("sum", ">=", [("member", X, [yes("p", X), no("q")]),
                                        ("member", op("*", TWO, Y), [compare("<", Y, THREE)])], ONE),
                         yes("q"), ("sum", "<=", one, A)]),
        )
        self.assert_parsed("{p} :- sum {1} <= 2.",
                           ("choose", None, [("choice", P, [])], None, [("sum", "<=", one, TWO)]))

    def test_kinds_of_values(self):
        text = "1 {p(X) : q} 2 :- sum {X : p(X)} >= 1, X < 2. range 1 2. minimize {1}. p :- q. :- p."

        def check(tree):
            self.assertIn(type(tree), (tuple, list, int, str, type(None)))
            if type(tree) in (tuple, list):
                for item in tree:
                    check(item)

        self.assertIs(type(parse(text)), list)
        check(parse(text))


class Conditions(TestCase):
    def assert_condition(self, text, condition):
        """Check a condition at each place of the grammar where one stands."""
        self.assert_parsed(f":- {text}.", ("deny", [condition]))
        self.assert_parsed(f"r :- q, {text}.", ("rule", R, [yes("q"), condition]))
        self.assert_parsed(f"{{p : {text}; q : r, {text}}}.", ("choose", None, [
            ("choice", P, [condition]), ("choice", Q, [yes("r"), condition])], None, []))
        self.assert_parsed(f"minimize {{1 : {text}; 2 : r, {text}}}.", ("minimize", [
            ("member", ONE, [condition]), ("member", TWO, [yes("r"), condition])]))

    def test_name_before_a_bracket(self):
        self.assert_condition("a(X)", yes("a", X))
        self.assert_condition("a (1, b)", yes("a", ONE, B))
        self.assert_condition("not a(X)", no("a", X))

    def test_name_before_a_relation(self):
        for sign in RELATIONS:
            self.assert_condition(f"a {sign} b", compare(sign, A, B))
            self.assert_condition(f"a{sign}X", compare(sign, A, X))

    def test_name_before_an_operator(self):
        for sign in "+-*":
            self.assert_condition(f"a {sign} 1 = b", compare("=", op(sign, A, ONE), B))
            self.assert_condition(f"a{sign}X<=b", compare("<=", op(sign, A, X), B))

    def test_name_before_anything_else(self):
        self.assert_condition("a", yes("a"))
        self.assert_condition("not a", no("a"))

    def test_comparisons_that_start_with_something_else(self):
        for sign in RELATIONS:
            self.assert_condition(f"X {sign} 3", compare(sign, X, THREE))
            self.assert_condition(f"3 {sign} a", compare(sign, THREE, A))
            self.assert_condition(f"(a) {sign} X + 1", compare(sign, A, op("+", X, ONE)))

    def test_name_alone_on_the_right(self):
        self.assert_condition("1 = a", compare("=", ONE, A))

    def test_names_that_begin_like_keywords(self):
        self.assert_condition("nota", yes("nota"))
        self.assert_condition("not summer", no("summer"))
        self.assert_condition("ranges < 3", compare("<", ("sym", "ranges"), THREE))
        self.assert_parsed("minimizes. range_(1).", ("rule", atom("minimizes"), []), ("rule", atom("range_", ONE), []))

    def test_after_not_a_name_is_an_atom_in_every_case(self):
        for sign in RELATIONS + ("+", "-", "*"):
            self.assert_fails_at_mark(f":- not a @{sign} 1.")

    def test_before_a_bracket_a_name_is_an_atom_in_every_case(self):
        for sign in RELATIONS + ("+", "-", "*"):
            self.assert_fails_at_mark(f":- a(1) @{sign} 1.")


class Terms(TestCase):
    def assert_term(self, text, term):
        """Check a term at each place of the grammar where one stands."""
        self.assert_parsed(f"p({text}).", ("rule", atom("p", term), []))
        self.assert_parsed(f"p(1, {text}) :- q({text}).", ("rule", atom("p", ONE, term), [yes("q", term)]))
        self.assert_parsed(f":- 1 < {text}.", ("deny", [compare("<", ONE, term)]))
        self.assert_parsed(f":- {text} = 1.", ("deny", [compare("=", term, ONE)]))
        self.assert_parsed(f":- sum {{{text}}} >= {text}.", ("deny", [("sum", ">=", [("member", term, [])], term)]))
        self.assert_parsed(f"minimize {{1; {text} : p}}.", ("minimize", [
            ("member", ONE, []), ("member", term, [yes("p")])]))

    def test_factors(self):
        self.assert_term("0", ("int", 0))
        self.assert_term("9999", ("int", 9999))
        self.assert_term("a", A)
        self.assert_term("X", X)
        self.assert_term("(X)", X)
        self.assert_term("((3))", THREE)

    def test_operations(self):
        for sign in "+-*":
            self.assert_term(f"X {sign} 1", op(sign, X, ONE))
            self.assert_term(f"a{sign}b", op(sign, A, B))

    def test_operators_associate_to_the_left(self):
        for first, second in itertools.product("+-", repeat=2):
            self.assert_term(f"1 {first} 2 {second} 3", op(second, op(first, ONE, TWO), THREE))
        self.assert_term("1 * 2 * 3", op("*", op("*", ONE, TWO), THREE))
        self.assert_term("1 - 2 - 3 - X - a", op("-", op("-", op("-", op("-", ONE, TWO), THREE), X), A))
        self.assert_term("1 * 2 * 3 * X", op("*", op("*", op("*", ONE, TWO), THREE), X))

    def test_products_bind_closer(self):
        for sign in "+-":
            self.assert_term(f"1 {sign} 2 * 3", op(sign, ONE, op("*", TWO, THREE)))
            self.assert_term(f"1 * 2 {sign} 3", op(sign, op("*", ONE, TWO), THREE))
            self.assert_term(f"1 * 2 {sign} 3 * X", op(sign, op("*", ONE, TWO), op("*", THREE, X)))

    def test_brackets(self):
        for first, second in itertools.product("+-*", repeat=2):
            self.assert_term(f"1 {first} (2 {second} 3)", op(first, ONE, op(second, TWO, THREE)))
            self.assert_term(f"(1 {first} 2) {second} 3", op(second, op(first, ONE, TWO), THREE))
        self.assert_term("((1 + X) * (a - 2))", op("*", op("+", ONE, X), op("-", A, TWO)))


class Atoms(TestCase):
    def test_numbers_of_terms(self):
        self.assert_parsed("p. p(1). p(1, 2). p(1, 2, 3). p(1, 2, 3, X).",
                           *[("rule", atom("p", *[ONE, TWO, THREE, X][:many]), []) for many in range(5)])

    def test_at_each_place(self):
        self.assert_parsed("p(X) :- q(a, 1), not r(Y).", ("rule", atom("p", X), [yes("q", A, ONE), no("r", Y)]))
        self.assert_parsed("{p(X); q(1, 2) : r(Y)}.", ("choose", None, [
            ("choice", atom("p", X), []), ("choice", atom("q", ONE, TWO), [yes("r", Y)])], None, []))


def chosen_text(chooser, symbol, depth):
    """Return the tokens of a random part of a text, by the grammar; it gets shorter from the given depth on."""
    if symbol in GRAMMAR:
        bodies = GRAMMAR[symbol]
        if depth <= 0:
            bodies = sorted(bodies, key=len)[:2]
        found = []
        for part in chooser.choice(bodies):
            found.extend(chosen_text(chooser, part, depth - 1))
        return found
    words = {"INT": ["0", "1", "42", "9999"], "NAME": ["a", "b", "sums"], "VAR": ["X", "Y", "Zz_1"]}
    return [chooser.choice(words.get(symbol, [symbol]))]


def random_text(chooser):
    """Return a random text of the grammar as a list of tokens."""
    found = []
    for _ in range(chooser.randint(0, 4)):
        found.extend(chosen_text(chooser, "statement", chooser.randint(3, 9)))
    return found


class WrittenForm(TestCase):
    def assert_written_form(self, text):
        statements = parse(text)
        written = format_text(statements)
        self.assertEqual(parse(written), statements)
        self.assertEqual(format_text(parse(written)), written)

    def test_each_kind_of_statement(self):
        self.assert_written_form("")
        self.assert_written_form("p. p(1,a,X+1) :- q(X),not r,X!=a*2. :-p,not q(X). range 1 5.")
        self.assert_written_form("minimize{X*(Y-1):p(X,Y);3}.")
        self.assert_written_form("1{p(X):q(X),X<3;r}2:-sum{X:p(X);1}>=3-X,sum{1}<=0. {p}. 1{p}. {p}2 :- q.")

    def test_terms(self):
        for text in ("1-2-3", "1-(2-3)", "(1+2)*3", "1+2*3", "1*(2*3)", "1*2*3", "((X))", "(a-1)*(b+1)"):
            self.assert_written_form(f"p({text}) :- {text} = ({text}), a+1 < 2.")

    def test_random_texts(self):
        chooser = random.Random(7)
        tried = 0
        while tried < 300:
            text = " ".join(random_text(chooser))
            # The written form is longer than a text without spaces and has brackets of its own.
            if len(text) < 2000 and text.count("(") < 6 and max(map(len, text.split(".")), default=0) < 200:
                if self.fits(text):
                    self.assert_written_form(text)
                    tried += 1

    def fits(self, text):
        try:
            parse(text)
        except TextError as error:
            self.assertEqual(error.at, 0)
            return False
        return True

    def test_spaces_and_newlines_change_nothing(self):
        chooser = random.Random(8)
        for _ in range(200):
            parts = random_text(chooser)
            text = " ".join(parts)
            if len(text) < 1000 and self.fits(text):
                spaced = "".join(chooser.choice([" ", "\n", " \n  "]) + part for part in parts) + "\n "
                self.assertEqual(parse(spaced), parse(text))
        self.assertEqual(parse("p(X):-q(X),not r,X<3.{p;q}2."),
                         parse(" p ( X )\n:-\nq(X) , not\nr, X < 3 .\n\n{ p ; q } 2 ."))


class Places(TestCase):
    def test_empty_statements(self):
        self.assert_fails_at_mark("@.")
        self.assert_fails_at_mark("p. @.")
        self.assert_fails_at_mark("p.@.")
        self.assert_fails_at_mark("\n @:")
        self.assert_fails_at_mark(":- @.")

    def test_begin_of_a_statement(self):
        for text in ("X.", ") p.", "+ 1.", "not p.", "sum {1} >= 1.", ", p.", "} p.", "= 1.", "* 2.", "; p."):
            self.assert_fails_at_mark("@" + text)
            self.assert_fails_at_mark("p. @" + text)

    def test_behind_a_head(self):
        for token in ("p", "X", "1", ",", ")", "{", "=", "+", ";", ":", "not", "range"):
            self.assert_fails_at_mark(f"p @{token}.")
            self.assert_fails_at_mark(f"p(1) @{token}.")
        self.assert_fails_at_mark("p @).")
        self.assert_fails_at_mark("p(1) @(2).")

    def test_behind_a_statement_a_statement_begins(self):
        self.assert_fails_at_mark("p.@, q.")
        self.assert_fails_at_mark("range 1 2. @X.")
        self.assert_fails_at_mark("range 1 2. 3@.")
        self.assert_fails_at_mark("range 1 2. 3 @p.")

    def test_atoms(self):
        self.assert_fails_at_mark("p(@).")
        self.assert_fails_at_mark("p(1@.")
        self.assert_fails_at_mark("p(1, @).")
        self.assert_fails_at_mark("p(1 @2).")
        self.assert_fails_at_mark("p(1 @; 2).")
        self.assert_fails_at_mark("p(@, 1).")
        self.assert_fails_at_mark("p(q@(1)).")
        self.assert_fails_at_mark("p(@not).")
        self.assert_fails_at_mark("p(1, @sum).")
        self.assert_fails_at_mark("p(X @< 2).")
        self.assert_fails_at_mark("p(1 @: 2).")

    def test_keyword_in_the_place_of_a_name(self):
        for word in KEYWORDS:
            self.assert_fails_at_mark(f"p(@{word}).")
            self.assert_fails_at_mark(f"p(1 + @{word}).")
            self.assert_fails_at_mark(f":- not @{word}.")
            self.assert_fails_at_mark(f"{{@{word}}}.")
            self.assert_fails_at_mark(f"{{p; @{word} : q}}.")
            self.assert_fails_at_mark(f":- 1 < @{word}.")
            self.assert_fails_at_mark(f"minimize {{@{word}}}.")
            self.assert_fails_at_mark(f":- sum {{@{word}}} >= 1.")
            self.assert_fails_at_mark(f":- sum {{1}} >= @{word}.")
            self.assert_fails_at_mark(f"p :- (@{word}) = 1.")
            if word != "not":
                self.assert_fails_at_mark(f"{{p : @{word}}}.")
                self.assert_fails_at_mark(f"{{p : q, @{word} {{1}} >= 1}}.")
                self.assert_fails_at_mark(f"minimize {{1 : @{word}}}.")
            if word in ("minimize", "range"):
                self.assert_fails_at_mark(f"p :- @{word}.")
                self.assert_fails_at_mark(f"p :- q, @{word} {{1}}.")
                self.assert_fails_at_mark(f"p. {word} @:- p.")
        self.assert_fails_at_mark("@not.")
        self.assert_fails_at_mark("@sum.")
        self.assert_fails_at_mark("range@.")
        self.assert_fails_at_mark("minimize@.")
        self.assert_fails_at_mark("range @(1).")
        self.assert_fails_at_mark("minimize @= 1.")
        self.assert_fails_at_mark(":- sum @= 1.")
        self.assert_fails_at_mark(":- not @not p.")

    def test_terms(self):
        for text in ("@+ 1", "1 + @+ 1", "1 + @", "1 * @", "1 - @- 1", "1 @2", "1 @X", "a @b", "(@)", "1 + (@",
                     "(1 + @)", "1 @{", "1 @;", "1 @:", "1 @:- 2", "(1 @, 2)", "1 @= 2", "X @(1)", "(1) @(2)"):
            self.assert_fails_at_mark(f"p({text}).")
        self.assert_fails_at_mark("p((1)@.")
        self.assert_fails_at_mark("p((1 + 2)@.")

    def test_comparisons(self):
        self.assert_fails_at_mark(":- X@.")
        self.assert_fails_at_mark(":- 1@, p.")
        self.assert_fails_at_mark(":- X + 1@.")
        self.assert_fails_at_mark(":- a + 1@.")
        self.assert_fails_at_mark(":- (a)@.")
        self.assert_fails_at_mark(":- X < @.")
        self.assert_fails_at_mark(":- X < @< 1.")
        self.assert_fails_at_mark(":- X < 1 @< 2.")
        self.assert_fails_at_mark(":- a = @= b.")
        self.assert_fails_at_mark(":- a + @= b.")
        self.assert_fails_at_mark(":- X = p@(1).")
        self.assert_fails_at_mark(":- X @p.")
        self.assert_fails_at_mark(":- X @(1).")
        self.assert_fails_at_mark(":- (X @< 1).")
        self.assert_fails_at_mark(":- X @:- 1.")
        self.assert_fails_at_mark(":- not @X = 1.")
        self.assert_fails_at_mark(":- not @1 = 1.")
        self.assert_fails_at_mark(":- not @(a) = 1.")

    def test_bodies(self):
        self.assert_fails_at_mark("p :- @.")
        self.assert_fails_at_mark("p :- q, @.")
        self.assert_fails_at_mark("p :- @, q.")
        self.assert_fails_at_mark("p :- q @r.")
        self.assert_fails_at_mark("p :- q @; r.")
        self.assert_fails_at_mark("p :- q @: r.")
        self.assert_fails_at_mark("p :- q @:- r.")
        self.assert_fails_at_mark("p :- q @1.")
        self.assert_fails_at_mark("p :- q @X.")
        self.assert_fails_at_mark("p :- a @{.")
        self.assert_fails_at_mark("p :- @{q}.")
        self.assert_fails_at_mark("p :- @:- q.")
        self.assert_fails_at_mark("p :- q(1) @r.")
        self.assert_fails_at_mark("p :- @).")

    def test_choices(self):
        self.assert_fails_at_mark("{@}.")
        self.assert_fails_at_mark("{@;p}.")
        self.assert_fails_at_mark("{p;@}.")
        self.assert_fails_at_mark("{p @, q}.")
        self.assert_fails_at_mark("{p @q}.")
        self.assert_fails_at_mark("{p @.")
        self.assert_fails_at_mark("{p @)}.")
        self.assert_fails_at_mark("{p :@}.")
        self.assert_fails_at_mark("{p : @: q}.")
        self.assert_fails_at_mark("{p : q @: r}.")
        self.assert_fails_at_mark("{p : q, @}.")
        self.assert_fails_at_mark("{p : q; @}.")
        self.assert_fails_at_mark("{p : q @.")
        self.assert_fails_at_mark("{p @:- q}.")
        self.assert_fails_at_mark("{@not p}.")
        self.assert_fails_at_mark("{@X}.")
        self.assert_fails_at_mark("{@1}.")
        self.assert_fails_at_mark("{p @< 1}.")
        self.assert_fails_at_mark("{p : @sum {1} >= 1}.")
        self.assert_fails_at_mark("{@{p}}.")

    def test_bounds_of_choices(self):
        self.assert_fails_at_mark("1 @.")
        self.assert_fails_at_mark("1 @p.")
        self.assert_fails_at_mark("1 @1 {p}.")
        self.assert_fails_at_mark("@X {p}.")
        self.assert_fails_at_mark("1 @+ 1 {p}.")
        self.assert_fails_at_mark("1 @:- p.")
        self.assert_fails_at_mark("{p} @X.")
        self.assert_fails_at_mark("{p} @p.")
        self.assert_fails_at_mark("{p} 1 @2.")
        self.assert_fails_at_mark("{p} 1 @+ 1.")
        self.assert_fails_at_mark("{p} @{q}.")
        self.assert_fails_at_mark("{p} @<= 1.")
        self.assert_fails_at_mark("{p} 1 @, p.")
        self.assert_fails_at_mark("{p} 1 :- @.")
        self.assert_fails_at_mark("@- 1 {p}.")

    def test_ranges(self):
        self.assert_fails_at_mark("range @.")
        self.assert_fails_at_mark("range 1@.")
        self.assert_fails_at_mark("range @X 2.")
        self.assert_fails_at_mark("range @a 2.")
        self.assert_fails_at_mark("range 1 @a.")
        self.assert_fails_at_mark("range 1 @X.")
        self.assert_fails_at_mark("range 1 2 @3.")
        self.assert_fails_at_mark("range 1@, 2.")
        self.assert_fails_at_mark("range 1 2 @:- p.")
        self.assert_fails_at_mark("range @- 1 2.")
        self.assert_fails_at_mark("range 1 @+ 2.")
        self.assert_fails_at_mark("range 1 @: 2.")

    def test_minimize(self):
        self.assert_fails_at_mark("minimize @1.")
        self.assert_fails_at_mark("minimize {@}.")
        self.assert_fails_at_mark("minimize {1 @.")
        self.assert_fails_at_mark("minimize {1}@}.")
        self.assert_fails_at_mark("minimize {1} @>= 2.")
        self.assert_fails_at_mark("minimize {1} @1.")
        self.assert_fails_at_mark("minimize {1} @:- p.")
        self.assert_fails_at_mark("minimize {1 @, 2}.")
        self.assert_fails_at_mark("minimize {1;@}.")
        self.assert_fails_at_mark("minimize {1 : @}.")
        self.assert_fails_at_mark("minimize {1 : p, @}.")
        self.assert_fails_at_mark("minimize {1 @p}.")
        self.assert_fails_at_mark("minimize {p@(1)}.")
        self.assert_fails_at_mark("minimize {@not p}.")
        self.assert_fails_at_mark("minimize {1 : @sum {1} >= 1}.")
        self.assert_fails_at_mark("1 @minimize {1}.")

    def test_sums(self):
        self.assert_fails_at_mark(":- sum @1.")
        self.assert_fails_at_mark(":- sum @>= 1.")
        self.assert_fails_at_mark(":- sum {@} >= 1.")
        self.assert_fails_at_mark(":- sum {1 @>= 1.")
        self.assert_fails_at_mark(":- sum {1} @.")
        self.assert_fails_at_mark(":- sum {1} @, p.")
        for sign in ("=", "!=", "<", ">"):
            self.assert_fails_at_mark(f":- sum {{1}} @{sign} 1.")
        self.assert_fails_at_mark(":- sum {1} >= @.")
        self.assert_fails_at_mark(":- sum {1} >= @not p.")
        self.assert_fails_at_mark(":- sum {1} <= 1 @<= 2.")
        self.assert_fails_at_mark(":- sum {1} <= p@(1).")
        self.assert_fails_at_mark(":- sum {1 : p @: q} <= 1.")
        self.assert_fails_at_mark(":- sum {1@, 2} <= 1.")
        self.assert_fails_at_mark(":- not @sum {1} <= 1.")
        self.assert_fails_at_mark(":- 1 @sum {1} <= 1.")
        self.assert_fails_at_mark("@sum {1} <= 1 :- p.")

    def test_words_and_integers_that_are_split(self):
        # A word of 21 characters and an integer of five digits are two tokens each.
        self.assert_fails_at_mark("p" * 20 + "@p.")
        self.assert_fails_at_mark("p(1234@5).")
        self.assert_fails_at_mark("p(0@5).")
        self.assert_parsed("range 12345.", ("range", 1234, 5))

    def test_text_that_ends_at_each_kind_of_place(self):
        whole = ("p(X + (1), a * 2) :- q(X), not r, X <= 3 - a, sum {X : p(X), not q; 1} >= 2 - 1. :- a. range 1 2. "
                 "1 {p : q, X = 1; r(1)} 2 :- p. minimize {1 : p, 2 < 3; X}.")
        ends = {0}
        for kind, text, at in tokens(whole)[:-1]:
            end = at + len(text)
            if text == ".":
                ends.add(end)
            else:
                for begun in (whole[:end], whole[:end] + " \n"):
                    self.assert_place(begun, len(begun))
        for end in ends:
            self.assertEqual(len(parse(whole[:end])), whole[:end].count("."))

    def test_short_texts_that_end_too_early(self):
        for text in ("p", "p(", "p(1", "p(1,", "p(1 +", "p((", "p :-", ":-", ":- not", ":- sum", ":- sum {",
                     ":- sum {1", ":- sum {1}", ":- sum {1} >=", ":- sum {1} >= 1", ":- X", ":- X <", ":- X < 1",
                     ":- a", ":- a +", "1", "{", "{p", "{p :", "{p : q", "{p : q,", "{p;", "{p}", "{p} 1", "{p} :-",
                     "range", "range 1", "range 1 2", "minimize", "minimize {", "minimize {1", "minimize {1}",
                     "minimize {1;", "p :- q,"):
            self.assert_place(text, len(text))
            self.assert_place("q.\n" + text + "\n", len(text) + 4)


class PlacesByCharts(TestCase):
    """The first token that does not fit, as a second reading of the grammar gives it."""

    def place(self, text):
        try:
            parse(text)
        except TextError as error:
            return error.at
        return None

    def test_texts_with_one_token_changed(self):
        chooser = random.Random(9)
        words = [".", ":-", ",", ";", ":", "(", ")", "{", "}", "+", "-", "*", "=", "<", ">=", "<=", "a", "X", "1",
                 *KEYWORDS]
        failed = 0
        for _ in range(1500):
            parts = random_text(chooser)
            if len(parts) > 45:
                continue
            at = chooser.randrange(len(parts) + 1)
            end = at + chooser.choice([0, 1, 1])
            parts[at:end] = [chooser.choice(words)] if chooser.random() < 0.7 else []
            text = chooser.choice(["", " "]).join(parts) if chooser.random() < 0.1 else " ".join(parts)
            expected = place_by_charts(text)
            # A text that fits the grammar may still exceed another limit.
            if text.count("(") <= 10 and (expected is not None or self.place(text) != 0):
                self.assertEqual(self.place(text), expected, text)
                failed += expected is not None
        self.assertGreater(failed, 300)

    def test_short_texts(self):
        words = [".", ":-", ",", "(", ")", "{", "}", "+", "=", "a", "X", "1", "not", "sum", "range"]
        for size in range(4):
            for parts in itertools.product(words, repeat=size):
                text = " ".join(parts)
                self.assertEqual(self.place(text), place_by_charts(text), text)
        for begin in (":- a", ":- sum { 1 }", "{ a", "a ("):
            for parts in itertools.product(words + ["<=", ";", ":"], repeat=2):
                text = f"{begin} {' '.join(parts)}"
                self.assertEqual(self.place(text), place_by_charts(text), text)


class Limits(TestCase):
    def test_characters(self):
        self.assert_parsed("p." + " " * 3998, ("rule", P, []))
        self.assert_place("p." + " " * 3999, 0)
        self.assert_place("p." * 2001, 0)

    def test_statements(self):
        self.assertEqual(len(parse("p. " * 60)), 60)
        self.assert_place("p. " * 61, 0)
        self.assertEqual(len(parse("p. :- q. {r}. range 1 2. minimize {1}. 1 {p} 2. " * 10)), 60)
        self.assert_place("p. :- q. {r}. range 1 2. minimize {1}. 1 {p} 2. " * 10 + "p.", 0)

    def test_terms_of_an_atom(self):
        right, wrong = "p(1, 2, 3, 4)", "p(1, 2, 3, 4, 5)"
        for text in ("{}.", "q :- {}.", ":- not {}.", "{{{}}}.", "{{p : {}}}.", "minimize {{1 : {}}}.",
                     ":- sum {{1 : {}}} >= 1."):
            self.assertEqual(len(parse(text.format(right))), 1)
            self.assert_place("p. " + text.format(wrong), 0)
        self.assert_place("p(" + "1, " * 20 + "1).", 0)
        # Terms of several atoms do not add up.
        self.assertEqual(len(parse(f"{right} :- {right}, {right}.")), 1)

    def test_words_of_a_statement(self):
        self.assertEqual(len(parse("p :- " + "q, " * 58 + "q.")[0][2]), 59)
        self.assert_place("p :- " + "q, " * 59 + "q.", 0)
        # Names, keywords, variables and integers count, signs do not.
        for many, begin in ((3, "p(X) :- q"), (4, "1 {p} 2 :- q"), (3, ":- not p, q"), (2, ":- 1 < (((2)))"),
                            (4, ":- sum {X : p} >= 3"), (5, ":- sum {X : not p} <= 3"), (3, "{p; q} :- q")):
            self.assertEqual(len(parse(begin + ", q" * (60 - many) + ".")), 1, begin)
            self.assert_place(begin + ", q" * (61 - many) + ".", 0)
        self.assertEqual(len(parse("minimize {" + "; ".join(["1"] * 59) + "}.")), 1)
        self.assert_place("minimize {" + "; ".join(["1"] * 60) + "}.", 0)
        self.assertEqual(len(parse("{" + "; ".join(["p"] * 60) + "}.")), 1)
        self.assert_place("{" + "; ".join(["p"] * 61) + "}.", 0)
        self.assertEqual(len(parse(":- " + ", ".join(["not p"] * 30) + ".")), 1)
        self.assert_place(":- " + ", ".join(["not p"] * 30) + ", p.", 0)
        self.assertEqual(len(parse(":- X = " + " + ".join(["1"] * 59) + ".")), 1)
        self.assert_place(":- X = " + " + ".join(["1"] * 60) + ".", 0)

    def test_words_are_counted_in_each_statement_alone(self):
        long = "p :- " + ", ".join(["q"] * 59) + ". "
        self.assertEqual(len(parse(long * 15)), 15)
        self.assert_place(long * 3 + long.replace(".", ", q.") + long, 0)

    def test_very_long_statements(self):
        self.assert_place("p(" + "1+" * 1900 + "1).", 0)
        self.assert_place("p :- " + "q," * 1900 + "q.", 0)
        self.assert_place("p(" + "1*" * 1900 + "1", 3803)

    def test_depth_of_brackets(self):
        for many in range(1, 11):
            self.assert_parsed(f"p({'(' * (many - 1)}1{')' * (many - 1)}).", ("rule", atom("p", ONE), []))
            self.assert_parsed(f":- {'(' * many}1{')' * many} = 1.", ("deny", [compare("=", ONE, ONE)]))
        self.assert_place("q. p(" + "(" * 10 + "1" + ")" * 10 + ").", 0)
        self.assert_place("q. :- " + "(" * 11 + "1" + ")" * 11 + " = 1.", 0)
        # Brackets beside one another are not nested.
        self.assert_parsed("p(" + " + ".join(["(1)"] * 2) + ").", ("rule", atom("p", op("+", ONE, ONE)), []))
        self.assertEqual(len(parse("p :- " + ", ".join(["q(((((1)))))"] * 20) + ".")), 1)

    def test_level_of_brackets_is_counted_through_the_text(self):
        self.assert_fails_at_mark("p @) " + "(" * 11)
        self.assert_place("p ) " + "(" * 12, 0)
        self.assert_place("p( p( p( p( p( p( p( p( p( p( p(", 0)
        self.assert_fails_at_mark("p( p@( p( p( p( p( p( p( p( p(")


class TwoFaults(TestCase):
    DEEP = "(" * 11
    LONG = "p :- " + "q, " * 70 + "q. "
    WIDE = "p(1, 2, 3, 4, 5). "

    def test_too_long_is_first(self):
        self.assert_place("q ? " + self.DEEP + " p p " + " " * 4000, 0)
        self.assert_place("q q " + " " * 4000, 0)

    def test_then_a_character_that_belongs_to_no_token(self):
        self.assert_place("q q ? .", 4)
        self.assert_place("q. :- . ?", 8)
        self.assert_place(self.DEEP + " ?", 12)
        self.assert_place("p(?", 2)
        self.assert_place("p. " * 61 + "?", 183)
        self.assert_place(self.LONG + "?", len(self.LONG))
        self.assert_place(self.WIDE + "#", len(self.WIDE))

    def test_then_brackets(self):
        self.assert_place("q q. p" + self.DEEP, 0)
        self.assert_place("q. p(" + self.DEEP, 0)
        self.assert_place("q. :- . " + self.DEEP, 0)
        self.assert_place(self.WIDE + "q q " + self.DEEP, 0)
        self.assert_place("q. :- X < " + self.DEEP + "1" + ")" * 11 + ". q", 0)

    def test_then_the_grammar(self):
        for before in (self.LONG, self.WIDE, "p. " * 61, self.LONG + self.WIDE):
            self.assert_fails_at_mark(before + "q @q.")
            self.assert_place(before + "q", len(before) + 1)
        self.assert_fails_at_mark("p(1, 2, 3, 4, 5 @.")
        self.assert_fails_at_mark("p(1, 2, 3, 4, 5, @).")
        self.assert_fails_at_mark("p :- " + "q, " * 70 + "@.")
        self.assert_fails_at_mark("q @q. " + self.WIDE)
        self.assert_fails_at_mark("q. q @q. r r.")

    def test_then_the_other_limits(self):
        self.assert_place(self.WIDE * 61, 0)
        self.assert_place("q. " + self.LONG + self.WIDE, 0)


class Calls(TestCase):
    def test_a_second_call_returns_the_same_in_lists_of_its_own(self):
        text = "1 {p(X) : q} 2 :- sum {X : p(X)} >= 1, r(X). p(1)."
        first = parse(text)
        kept = parse(text)
        self.assertEqual(first, kept)
        first[0][2].clear()
        first[0][4].clear()
        first[1][1][2].clear()
        first.clear()
        self.assertEqual(parse(text), kept)

    def test_a_second_call_fails_at_the_same_place(self):
        self.assert_place("p :- q q.", 7)
        self.assert_place("p :- q q.", 7)


if __name__ == "__main__":
    unittest.main()
