"""By what scopes know signed faces and functors, and how places of refusals are told.

Both have an attribute `greatest`, the greatest stamp in them.
"""


class SignedBase:
    """A signed face."""


class FunctorBase:
    """A functor."""


def behind(reason, place):
    """A reason whose place is told behind another one."""
    return (reason[0], (*place, *reason[1]), *reason[2:])


def placed(reason, place):
    """A reason that has no place, with one."""
    return (reason[0], place, *reason[1:])


def inside(reason):
    """A reason whose place begins with the number of a declaration, with its place in this declaration."""
    return (reason[0], reason[1][1:], *reason[2:])
