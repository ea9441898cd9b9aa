"""The statements of a text.

They are tuples whose first item names their form, as DOC.md lists them.
"""

from stablepapers.errors import TextError
from stablepapers.tokens import tokens

KEYWORDS = ("not", "sum", "minimize", "range")
RELATIONS = ("=", "!=", "<", "<=", ">", ">=")
SUM_RELATIONS = (">=", "<=")
OPERATORS = ("+", "-", "*")

MOST_STATEMENTS = 60
MOST_WORDS = 60
MOST_TERMS = 4
DEEPEST_BRACKETS = 10


class Parser:
    """Reads trees from a list of tokens; each method for a tree leaves the place behind its last token."""

    def __init__(self, listed):
        self.listed = listed
        self.place = 0
        self.most_terms = 0

    def kind(self):
        return self.listed[self.place][0]

    def text(self):
        return self.listed[self.place][1]

    def fail(self):
        """Raise the error of a token that does not fit; the end token has the length of the text as its place."""
        _, text, at = self.listed[self.place]
        if self.kind() == "end":
            raise TextError("the text ends too early", at)
        raise TextError(f"{text} at {at} does not fit", at)

    def skip(self, text):
        """Pass over a sign or keyword that must stand here."""
        if self.text() != text:
            self.fail()
        self.place += 1

    def passed(self, text):
        """Pass over a sign or keyword that may stand here, and return whether it did."""
        if self.text() != text:
            return False
        self.place += 1
        return True

    def one_of(self, texts):
        """Pass over one of several signs, and return it."""
        text = self.text()
        if text not in texts:
            self.fail()
        self.place += 1
        return text

    def integer(self):
        if self.kind() != "int":
            self.fail()
        self.place += 1
        return int(self.listed[self.place - 1][1])

    def optional_integer(self):
        if self.kind() != "int":
            return None
        return self.integer()

    def on_name(self):
        return self.kind() == "name" and self.text() not in KEYWORDS

    def name(self):
        if not self.on_name():
            self.fail()
        self.place += 1
        return self.listed[self.place - 1][1]

    def factor(self):
        if self.kind() == "int":
            return ("int", self.integer())
        if self.kind() == "var":
            self.place += 1
            return ("var", self.listed[self.place - 1][1])
        if self.passed("("):
            inner = self.term()
            self.skip(")")
            return inner
        return ("sym", self.name())

    def product(self):
        left = self.factor()
        while self.passed("*"):
            left = ("op", "*", left, self.factor())
        return left

    def term(self):
        left = self.product()
        while self.text() in ("+", "-"):
            sign = self.one_of(("+", "-"))
            left = ("op", sign, left, self.product())
        return left

    def atom(self):
        name = self.name()
        terms = []
        if self.passed("("):
            terms.append(self.term())
            while self.passed(","):
                terms.append(self.term())
            self.skip(")")
        self.most_terms = max(self.most_terms, len(terms))
        return ("atom", name, terms)

    def on_atom(self):
        """Return whether the condition that begins here is an atom: its first two tokens decide it."""
        if not self.on_name():
            return False
        behind = self.listed[self.place + 1][1]
        return behind not in RELATIONS and behind not in OPERATORS

    def condition(self):
        if self.passed("not"):
            return ("no", self.atom())
        if self.on_atom():
            return ("yes", self.atom())
        left = self.term()
        sign = self.one_of(RELATIONS)
        return ("compare", sign, left, self.term())

    def optional_conditions(self):
        """Read the conditions of a choice or member, with the sign before them."""
        conditions = []
        if self.passed(":"):
            conditions.append(self.condition())
            while self.passed(","):
                conditions.append(self.condition())
        return conditions

    def choice(self):
        atom = self.atom()
        return ("choice", atom, self.optional_conditions())

    def choices(self):
        self.skip("{")
        found = [self.choice()]
        while self.passed(";"):
            found.append(self.choice())
        self.skip("}")
        return found

    def member(self):
        term = self.term()
        return ("member", term, self.optional_conditions())

    def members(self):
        self.skip("{")
        found = [self.member()]
        while self.passed(";"):
            found.append(self.member())
        self.skip("}")
        return found

    def part(self):
        if not self.passed("sum"):
            return self.condition()
        members = self.members()
        sign = self.one_of(SUM_RELATIONS)
        return ("sum", sign, members, self.term())

    def optional_body(self):
        parts = []
        if self.passed(":-"):
            parts.append(self.part())
            while self.passed(","):
                parts.append(self.part())
        return parts

    def choose(self):
        low = self.optional_integer()
        choices = self.choices()
        high = self.optional_integer()
        return ("choose", low, choices, high, self.optional_body())

    def bare_statement(self):
        """Read a statement up to its full stop."""
        if self.text() == ":-":
            return ("deny", self.optional_body())
        if self.passed("range"):
            low = self.integer()
            return ("range", low, self.integer())
        if self.passed("minimize"):
            return ("minimize", self.members())
        if self.text() == "{" or self.kind() == "int":
            return self.choose()
        atom = self.atom()
        return ("rule", atom, self.optional_body())

    def statement(self):
        found = self.bare_statement()
        self.skip(".")
        return found


def check_brackets(listed):
    """Raise TextError if brackets are nested too deep; it comes first of all that concerns more than one token."""
    level = 0
    for _, text, _ in listed:
        if text == "(":
            level += 1
        elif text == ")":
            level -= 1
        if level > DEEPEST_BRACKETS:
            raise TextError(f"brackets are nested more than {DEEPEST_BRACKETS} deep", 0)


def count_words(listed):
    """Return how many of some tokens are names, keywords, variables or integers."""
    return len([kind for kind, _, _ in listed if kind != "sign"])


def parse(text):
    """Return the list of the statements of a text."""
    listed = tokens(text)
    check_brackets(listed)
    parser = Parser(listed)
    statements = []
    most_words = 0
    while parser.kind() != "end":
        begin = parser.place
        statements.append(parser.statement())
        most_words = max(most_words, count_words(listed[begin:parser.place]))
    # Only a text that fits the grammar is asked for these limits, so they wait until all of it is read.
    if len(statements) > MOST_STATEMENTS:
        raise TextError(f"the text has more than {MOST_STATEMENTS} statements", 0)
    if most_words > MOST_WORDS:
        raise TextError(f"a statement has more than {MOST_WORDS} names, variables and integers", 0)
    if parser.most_terms > MOST_TERMS:
        raise TextError(f"an atom has more than {MOST_TERMS} terms", 0)
    return statements
