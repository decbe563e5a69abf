"""Operations on integers and strings, as runs by the rules and by the machine do them."""

from letquay.text.forms import GREATEST_INTEGER, LEAST_INTEGER

MAX_STRING = 10000
SPAN = GREATEST_INTEGER - LEAST_INTEGER + 1


def wrapped(number):
    """The integer of 63 bits that stands for a number."""
    return (number - LEAST_INTEGER) % SPAN + LEAST_INTEGER


def computed(word, one, other):
    """The pair of the result of two integers and of the name of the exception that is raised, one of them `None`."""
    if word == "+":
        return wrapped(one + other), None
    if word == "-":
        return wrapped(one - other), None
    if word == "*":
        return wrapped(one * other), None
    if other == 0:
        return None, "Div"
    return wrapped(one // other if word == "div" else one % other), None


def joined(one, other):
    """The same for two strings."""
    if len(one) + len(other) > MAX_STRING:
        return None, "Size"
    return one + other, None
