"""Tokens: how a text is cut, from the left, each token as long as possible."""

from letquay.text.forms import GREATEST_INTEGER, LEAST_INTEGER
from letquay.text.names import DIGITS, HIGH_LETTERS, KEYWORDS, LOW_LETTERS, is_high, is_low

LONG_SIGNS = (":>", "=>", "->", ":=", "::")
SHORT_SIGNS = "()[],;:=|_.*+-<^!"
# With these no longer sign begins.
LONE_SIGNS = "()[],;|_.*+<^!"
RUN_LETTERS = LOW_LETTERS + HIGH_LETTERS + DIGITS
# More digits than any integer of 63 bits has.
MANY_DIGITS = 20

# A token is a triple (kind, value, index). Keywords and signs are kinds of their own, without a value; the
# other kinds are "low", "high", "var", "eqvar", "number", "string", "end of text", and "none" for what is no token.


def _run_end(text, start):
    """Where the letters and digits end that begin at an index."""
    at = start
    while at < len(text) and text[at] in RUN_LETTERS:
        at += 1
    return at


def _number_of(digits):
    """The number with these digits, or None if they are none, or have zeros ahead, or are far too many."""
    if digits == "" or len(digits) > MANY_DIGITS or digits[0] == "0" and digits != "0":
        return None
    if not all([digit in DIGITS for digit in digits]):
        return None
    return int(digits)


def _word_of(run):
    """The pair (kind, value) of a run of letters and digits."""
    if run in KEYWORDS:
        return run, None
    if is_low(run):
        return "low", run
    if is_high(run):
        return "high", run
    number = _number_of(run)
    if number is None or number > GREATEST_INTEGER:
        return "none", None
    return "number", number


def _negative_token(text, start):
    end = _run_end(text, start + 1)
    number = _number_of(text[start + 1:end])
    if number is None or number == 0 or -number < LEAST_INTEGER:
        return ("none", None, start), end
    return ("number", -number, start), end


def _variable_token(text, start):
    kind = "eqvar" if text[start:start + 2] == "''" else "var"
    first = start + (2 if kind == "eqvar" else 1)
    end = _run_end(text, first)
    name = text[first:end]
    return (kind, name, start) if is_low(name) else ("none", None, start), end


def _string_token(text, start):
    letters = []
    at = start + 1
    while at < len(text) and text[at] != "\"":
        if text[at] == "\\":
            at += 1
            if text[at:at + 1] not in ("\"", "\\"):
                return ("none", None, start), at
        elif not " " <= text[at] <= "~":
            return ("none", None, start), at
        letters.append(text[at])
        at += 1
    if at == len(text):
        return ("none", None, start), at
    return ("string", "".join(letters), start), at + 1


def _sign_token(text, start):
    if text[start:start + 2] in LONG_SIGNS:
        return (text[start:start + 2], None, start), start + 2
    if text[start] in SHORT_SIGNS:
        return (text[start], None, start), start + 1
    return ("none", None, start), start


def _token_at(text, start):
    """The token that begins at an index, one of no letters and digits alone, and the index behind it."""
    letter = text[start]
    if letter == "~":
        return _negative_token(text, start)
    if letter == "'":
        return _variable_token(text, start)
    if letter == "\"":
        return _string_token(text, start)
    return _sign_token(text, start)


def tokens_of(text):
    """The list of the tokens of a text; the last one is its end, or the first thing that is no token."""
    found = []
    words = {}
    at = 0
    while at < len(text):
        letter = text[at]
        if letter in " \n":
            at += 1
            continue
        if letter in RUN_LETTERS:
            end = _run_end(text, at)
            run = text[at:end]
            if run not in words:
                words[run] = _word_of(run)
            token, at = (*words[run], at), end
        elif letter in LONE_SIGNS:
            token, at = (letter, None, at), at + 1
        else:
            token, at = _token_at(text, at)
        found.append(token)
        if token[0] == "none":
            return found
    found.append(("end of text", None, len(text)))
    return found
