"""The texts of integers and strings."""


def number_text(number):
    """The text of an integer."""
    return f"~{-number}" if number < 0 else str(number)


def string_text(value):
    """The text of a string, with its quotes."""
    inside = value.replace("\\", "\\\\").replace("\"", "\\\"")
    return "\"" + inside + "\""
