"""Names and paths: what is a low name, a high name, and a path of each kind."""

LOW_LETTERS = "abcdefghijklmnopqrstuvwxyz"
HIGH_LETTERS = "ABCDEFGHIJKLMNOPQRSTUVWXYZ"
DIGITS = "0123456789"
LONGEST_NAME = 8

KEYWORDS = (
    "and", "andalso", "as", "case", "datatype", "div", "do", "else", "end", "eqtype", "exception", "fn", "functor",
    "handle", "if", "in", "include", "let", "mod", "of", "open", "orelse", "print", "raise", "read", "rec", "ref",
    "sig", "signature", "struct", "structure", "text", "then", "type", "unit", "val", "when", "where", "while",
)


def _is_word(value):
    return isinstance(value, str) and 1 <= len(value) <= LONGEST_NAME


def is_low(value):
    """Whether the value is a low name: letters from a to z, and no keyword."""
    return _is_word(value) and all([letter in LOW_LETTERS for letter in value]) and value not in KEYWORDS


def is_high(value):
    """Whether the value is a high name: letters, of which the first is a capital one."""
    if not _is_word(value) or value[0] not in HIGH_LETTERS:
        return False
    return all([letter in LOW_LETTERS or letter in HIGH_LETTERS for letter in value])


def _is_led(value):
    """Whether the value is a tuple of one or more entries, of which all but the last are high names."""
    return isinstance(value, tuple) and len(value) > 0 and all([is_high(name) for name in value[:-1]])


def is_low_path(value):
    """Whether the value is a path of a value, or of a declared type."""
    return _is_led(value) and is_low(value[-1])


def is_high_path(value):
    """Whether the value is a path of a structure, constructor or exception."""
    return _is_led(value) and is_high(value[-1])


def is_type_path(value):
    """Whether the value is a path of a type; `ref` is one, though it is a keyword."""
    return is_low_path(value) or value == ("ref",)
