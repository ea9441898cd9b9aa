"""The tokens of a text: point 2, and point 6 as far as `tokens` keeps it."""

import itertools
import random
import re
import unittest

from stablepapers.errors import StableError, TextError
from stablepapers.tokens import tokens

SIGNS = [":-", "!=", "<=", ">=", "=", "<", ">", "(", ")", "{", "}", ",", ";", ":", ".", "+", "-", "*"]
ALLOWED = {chr(code) for code in range(32, 127)} - {"%"} | {"\n"}

# The longest token of point 2, written a second time as a pattern.
PATTERN = re.compile(
    r"(?P<name>[a-z][A-Za-z0-9_]{0,19})|(?P<var>[A-Z][A-Za-z0-9_]{0,19})"
    r"|(?P<int>0|[1-9][0-9]{0,3})|(?P<sign>:-|!=|<=|>=|[=<>(){},;:.+*-])"
)


def by_pattern(text):
    """Return the tokens, or the index of the first character that belongs to none."""
    found, at = [], 0
    while at < len(text):
        if text[at] in " \n":
            at += 1
            continue
        match = PATTERN.match(text, at)
        if match is None:
            return at
        found.append((match.lastgroup, match.group(), at))
        at = match.end()
    return found + [("end", "", len(text))]


def tokens_or_place(text):
    try:
        return tokens(text)
    except TextError as error:
        return error.at


def kinds_and_texts(text):
    return [(kind, part) for kind, part, _ in tokens(text)[:-1]]


class TestCase(unittest.TestCase):
    def assert_place(self, text, at):
        with self.assertRaises(TextError) as caught:
            tokens(text)
        self.assertIsInstance(caught.exception, StableError)
        self.assertEqual(caught.exception.at, at, repr(text))


class RightTexts(TestCase):
    def test_example_of_the_interface(self):
        self.assertEqual(
            tokens("p(X) :- 10."),
            [("name", "p", 0), ("sign", "(", 1), ("var", "X", 2), ("sign", ")", 3), ("sign", ":-", 5),
             ("int", "10", 8), ("sign", ".", 10), ("end", "", 11)],
        )

    def test_kinds_of_values(self):
        found = tokens("p(X).")
        self.assertIs(type(found), list)
        for token in found:
            self.assertIs(type(token), tuple)
            self.assertEqual([type(item) for item in token], [str, str, int])

    def test_each_kind(self):
        self.assertEqual(kinds_and_texts("abc"), [("name", "abc")])
        self.assertEqual(kinds_and_texts("Abc"), [("var", "Abc")])
        self.assertEqual(kinds_and_texts("123"), [("int", "123")])
        for sign in SIGNS:
            self.assertEqual(tokens(sign), [("sign", sign, 0), ("end", "", len(sign))])

    def test_letters_digits_and_underscores_in_words(self):
        for word in ("a_B9_", "aZzA09", "z", "q__"):
            self.assertEqual(tokens(word), [("name", word, 0), ("end", "", len(word))])
        for word in ("A_b9_", "ZzAa09", "Z", "Q__"):
            self.assertEqual(tokens(word), [("var", word, 0), ("end", "", len(word))])

    def test_keywords_are_names(self):
        for word in ("not", "sum", "minimize", "range", "nota", "summer"):
            self.assertEqual(tokens(word), [("name", word, 0), ("end", "", len(word))])

    def test_short_signs_beside_long_ones(self):
        cases = {
            ":": [":"], ":-": [":-"], ": -": [":", "-"], "::-": [":", ":-"], ":--": [":-", "-"],
            "-:": ["-", ":"], "<": ["<"], "<=": ["<="], "< =": ["<", "="], "<==": ["<=", "="],
            "=<": ["=", "<"], "=<=": ["=", "<="], ">": [">"], ">=": [">="], "> =": [">", "="],
            ">==": [">=", "="], "=>": ["=", ">"], "!=": ["!="], "!==": ["!=", "="], "==": ["=", "="],
            "<>": ["<", ">"], "<-": ["<", "-"], "<>=": ["<", ">="], ":\n-": [":", "-"],
        }
        for text, signs in cases.items():
            self.assertEqual(kinds_and_texts(text), [("sign", sign) for sign in signs], text)

    def test_each_pair_of_signs_without_a_space(self):
        for first, second in itertools.product(SIGNS, SIGNS):
            self.assertEqual(tokens(first + second), by_pattern(first + second))

    def test_no_space_between_tokens(self):
        self.assertEqual(
            tokens("p(X)<=3*a{}"),
            [("name", "p", 0), ("sign", "(", 1), ("var", "X", 2), ("sign", ")", 3), ("sign", "<=", 4),
             ("int", "3", 6), ("sign", "*", 7), ("name", "a", 8), ("sign", "{", 9), ("sign", "}", 10),
             ("end", "", 11)],
        )

    def test_integer_directly_before_a_word(self):
        self.assertEqual(tokens("3ab"), [("int", "3", 0), ("name", "ab", 1), ("end", "", 3)])
        self.assertEqual(tokens("3Ab"), [("int", "3", 0), ("var", "Ab", 1), ("end", "", 3)])

    def test_spaces_and_newlines_only_separate(self):
        self.assertEqual(
            tokens("\n  p \n\n  X\n 7   .  \n"),
            [("name", "p", 3), ("var", "X", 9), ("int", "7", 12), ("sign", ".", 16), ("end", "", 20)],
        )
        self.assertEqual(kinds_and_texts("p   (\n\nX )"), kinds_and_texts("p(X)"))

    def test_separated_words_and_integers_stay_apart(self):
        self.assertEqual(kinds_and_texts("a b"), [("name", "a"), ("name", "b")])
        self.assertEqual(kinds_and_texts("a\nb"), [("name", "a"), ("name", "b")])
        self.assertEqual(kinds_and_texts("1 2"), [("int", "1"), ("int", "2")])

    def test_text_without_any_token(self):
        for text in ("", " ", "\n", "  \n \n\n   "):
            self.assertEqual(tokens(text), [("end", "", len(text))])

    def test_end_has_the_length_of_the_text(self):
        for text in ("a", "a ", "a.\n\n", " a. b"):
            self.assertEqual(tokens(text)[-1], ("end", "", len(text)))


class Edges(TestCase):
    def test_words_of_20_and_21_characters(self):
        for kind, word in (("name", "a" * 20), ("var", "X" * 20), ("name", "a_9Z" * 5), ("var", "B_9z" * 5)):
            self.assertEqual(tokens(word), [(kind, word, 0), ("end", "", 20)])
            for more, rest in (("b", "name"), ("C", "var"), ("0", "int"), ("7", "int")):
                self.assertEqual(tokens(word + more), [(kind, word, 0), (rest, more, 20), ("end", "", 21)])
            self.assert_place(word + "_", 20)

    def test_words_of_more_than_40_characters(self):
        self.assertEqual([len(part) for _, part in kinds_and_texts("n" * 41)], [20, 20, 1])

    def test_integers_of_four_and_five_digits(self):
        self.assertEqual(tokens("9999"), [("int", "9999", 0), ("end", "", 4)])
        self.assertEqual(tokens("12345"), [("int", "1234", 0), ("int", "5", 4), ("end", "", 5)])
        self.assertEqual(tokens("10000"), [("int", "1000", 0), ("int", "0", 4), ("end", "", 5)])
        self.assertEqual([part for _, part in kinds_and_texts("123456789")], ["1234", "5678", "9"])

    def test_zero(self):
        self.assertEqual(tokens("0"), [("int", "0", 0), ("end", "", 1)])
        self.assertEqual(tokens("05"), [("int", "0", 0), ("int", "5", 1), ("end", "", 2)])
        self.assertEqual(tokens("00"), [("int", "0", 0), ("int", "0", 1), ("end", "", 2)])
        self.assertEqual([part for _, part in kinds_and_texts("0123450")], ["0", "1234", "50"])
        self.assertEqual(kinds_and_texts("100"), [("int", "100")])

    def test_texts_of_4000_and_4001_characters(self):
        self.assertEqual(tokens(" " * 4000), [("end", "", 4000)])
        self.assertEqual(len(tokens("." * 4000)), 4001)
        self.assertEqual(tokens(" " * 3999 + "."), [("sign", ".", 3999), ("end", "", 4000)])
        for char in (" ", "\n", ".", "a", "7"):
            self.assert_place(char * 4001, 0)

    def test_wrong_character_in_a_text_of_4000_characters(self):
        self.assert_place("." * 3999 + "?", 3999)

    def test_too_long_with_a_wrong_character(self):
        self.assert_place(" " * 4000 + "?", 0)
        self.assert_place("ab ?" + "." * 4000, 0)
        self.assert_place("%" * 5000, 0)


class WrongTexts(TestCase):
    def assert_wrong_everywhere(self, char):
        self.assert_place(char, 0)
        self.assert_place(char + "p(X).", 0)
        self.assert_place(" \n" + char, 2)
        self.assert_place("p(X)" + char + ".", 4)
        self.assert_place("p :- q, " + char + " r.", 8)
        self.assert_place("p(X)." + char, 5)
        self.assert_place("p(X).\n" + char, 6)

    def test_tab_percent_sign_and_bare_exclamation_mark(self):
        for char in ("\t", "%", "!"):
            self.assert_wrong_everywhere(char)

    def test_underscore_that_begins_nothing(self):
        self.assert_wrong_everywhere("_")
        self.assert_place("_a", 0)
        self.assert_place("p(_).", 2)
        self.assert_place("3_", 1)
        self.assert_place("a _b", 2)

    def test_exclamation_mark_with_something_else_behind_it(self):
        self.assert_place("a ! = b", 2)
        self.assert_place("a !b", 2)
        self.assert_place("a !!= b", 2)
        self.assert_place("!<=", 0)
        self.assert_place("a!=!", 3)

    def test_each_character_alone(self):
        begins = {sign[0] for sign in SIGNS} - {"!"}
        for char in sorted(ALLOWED | {chr(code) for code in range(0, 300)}):
            if char in " \n" or char in begins or (char.isascii() and char.isalnum()):
                self.assertEqual(tokens(char)[-1], ("end", "", 1))
            else:
                self.assert_wrong_everywhere(char)

    def test_characters_outside_ascii(self):
        # Letters, digits, spaces and line ends of other alphabets, which Python's methods accept.
        for char in "\u00e4\u00c4\u03b1\u00b2\u0665\u06f3\u00a0\u2003\u2028\u0085\uff1a\uff0d\U0001f600\x7f\x00":
            self.assert_wrong_everywhere(char)

    def test_other_white_space(self):
        for char in "\r\x0b\x0c\x1c\x1f":
            self.assert_wrong_everywhere(char)

    def test_wrong_character_inside_a_word_or_integer(self):
        self.assert_place("ab\u00e4cd", 2)
        self.assert_place("Ab\u00c4cd", 2)
        self.assert_place("12\u0663", 2)

    def test_first_of_several(self):
        self.assert_place("a ? % \t", 2)
        self.assert_place("ab\n\n# ?", 4)


class AgainstThePattern(TestCase):
    def test_all_short_texts(self):
        for size in range(5):
            for chars in itertools.product("aX07_:-!= ", repeat=size):
                text = "".join(chars)
                self.assertEqual(tokens_or_place(text), by_pattern(text), repr(text))

    def test_random_texts(self):
        chooser = random.Random(2)
        pieces = SIGNS + ["a" * 19, "X_" * 10, "123", "0", "b", "Y", "4", "_", " ", "\n", "not", "sum"]
        for _ in range(3000):
            text = "".join(chooser.choice(pieces) for _ in range(chooser.randint(1, 30)))
            self.assertEqual(tokens_or_place(text), by_pattern(text), repr(text))

    def test_written_with_spaces_the_tokens_are_the_same(self):
        chooser = random.Random(3)
        words = SIGNS + ["p", "not", "range", "X", "X1", "a" * 20, "0", "9999", "10"]
        for _ in range(500):
            parts = [chooser.choice(words) for _ in range(chooser.randint(0, 20))]
            spaced = "".join(chooser.choice(["", "\n", "  "]) + part + chooser.choice([" ", "\n"]) for part in parts)
            self.assertEqual([part for _, part in kinds_and_texts(spaced)], parts)


class Calls(TestCase):
    def test_a_second_call_returns_the_same_in_a_list_of_its_own(self):
        first = tokens("p(X) :- q.")
        kept = list(first)
        second = tokens("p(X) :- q.")
        self.assertEqual(first, second)
        self.assertIsNot(first, second)
        second.clear()
        self.assertEqual(first, kept)
        self.assertEqual(tokens("p(X) :- q."), kept)

    def test_a_second_call_fails_at_the_same_place(self):
        self.assert_place("p ? q", 2)
        self.assert_place("p ? q", 2)


if __name__ == "__main__":
    unittest.main()
