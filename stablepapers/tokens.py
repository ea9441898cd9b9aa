"""The tokens of a text."""

from stablepapers.errors import TextError

LONGEST_TEXT = 4000
LONGEST_WORD = 20
LONGEST_INTEGER = 4

# The signs of two characters stand first, so the first sign that fits is the longest one.
SIGNS = (
    ":-", "!=", "<=", ">=",
    "=", "<", ">", "(", ")", "{", "}", ",", ";", ":", ".", "+", "-", "*",
)


# The methods isalpha, isdigit and isspace accept characters outside ASCII, so they are not used.
def is_lower(char):
    return "a" <= char <= "z"


def is_upper(char):
    return "A" <= char <= "Z"


def is_digit(char):
    return "0" <= char <= "9"


def is_word(char):
    return is_lower(char) or is_upper(char) or is_digit(char) or char == "_"


def word_at(text, at):
    """Return the longest name or variable that begins at an index."""
    end = at + 1
    while end < len(text) and end - at < LONGEST_WORD and is_word(text[end]):
        end += 1
    return text[at:end]


def integer_at(text, at):
    """Return the longest integer that begins at an index."""
    if text[at] == "0":
        return "0"
    end = at + 1
    while end < len(text) and end - at < LONGEST_INTEGER and is_digit(text[end]):
        end += 1
    return text[at:end]


def sign_at(text, at):
    """Return the longest sign that begins at an index."""
    for sign in SIGNS:
        if text.startswith(sign, at):
            return sign
    raise TextError(f"the character at {at} belongs to no token", at)


def token_at(text, at):
    """Return the longest token that begins at an index."""
    char = text[at]
    if is_lower(char):
        return ("name", word_at(text, at), at)
    if is_upper(char):
        return ("var", word_at(text, at), at)
    if is_digit(char):
        return ("int", integer_at(text, at), at)
    return ("sign", sign_at(text, at), at)


def tokens(text):
    """Return the list of the tokens of a text as (kind, text, at), with an end token behind them."""
    if len(text) > LONGEST_TEXT:
        raise TextError(f"the text has more than {LONGEST_TEXT} characters", 0)
    found = []
    at = 0
    while at < len(text):
        if text[at] in (" ", "\n"):
            at += 1
        else:
            token = token_at(text, at)
            found.append(token)
            at += len(token[1])
    found.append(("end", "", len(text)))
    return found
