"""A shell: commands as texts, for a session and a desk."""

from letquay.desk.desk import Desk
from letquay.desk.judging import is_claim
from letquay.desk.sessions import Session
from letquay.errors import (
    InvalidOperation, InvalidUnit, NothingToUndo, ParseError, Refused, TooMany, UnknownName,
)
from letquay.text.names import DIGITS, is_high, is_low
from letquay.text.reader import read_structure
from letquay.text.tokens import tokens_of
from letquay.units.units import MAX_UNITS, Unit

MOST_DIGITS = 60
MOST_STEPS = 100000

# A command is a function of the session, the desk and the words behind it. What it returns is its answer, or `None` if
# the words are none of this command.


def _listed(texts):
    return "; ".join(texts) if texts else "none"


def _in_lines(lines):
    return "\n".join(lines) if lines else "none"


def _verdict_text(name, verdict):
    return f"{name} -" if verdict is None else " ".join([name, *verdict])


def _news(pairs):
    return _listed([_verdict_text(name, verdict) for name, verdict in pairs])


def _many_of(words):
    """The number behind a command, 1 if there is none, or None if it is wrong."""
    if not words:
        return 1
    word = words[0]
    if len(words) > 1 or not 1 <= len(word) <= MOST_DIGITS or not all([digit in DIGITS for digit in word]):
        return None
    return None if word[0] == "0" and word != "0" else int(word)


def _do(session, desk, words):
    return _in_lines(session.phrase(" ".join(words))) if words else None


def _ask(session, desk, words):
    return session.asked(" ".join(words)) if words else None


def _back(session, desk, words):
    many = _many_of(words)
    return None if many is None else _listed(session.undo(many=many))


def _again(session, desk, words):
    many = _many_of(words)
    return None if many is None else _listed(session.redo(many=many))


def _text(session, desk, words):
    return session.text(words[0]) if len(words) == 1 and is_low(words[0]) else None


def _scheme(session, desk, words):
    return session.scheme_of(words[0]) if len(words) == 1 and is_low(words[0]) else None


def _unit_of(names, tree):
    """The unit that a structure stands for: an error if it has another form."""
    signature = None
    if tree[0] == "seal":
        tree, signature = tree[1:]
    if tree[0] != "struct":
        raise ParseError(None)
    return Unit(names[0], tuple(names[1:]), tree[1], signature=signature)


def _put(session, desk, words):
    if "=" not in words[:-1]:
        return None
    at = words.index("=")
    names = words[:at]
    if not 1 <= len(names) <= MAX_UNITS or not all([is_high(name) for name in names]):
        return None
    if len(set(names)) < len(names):
        return None
    return _news(desk.put(_unit_of(names, read_structure(" ".join(words[at + 1:])))))


def _take(session, desk, words):
    return _news(desk.take(words[0])) if len(words) == 1 and is_high(words[0]) else None


def _undo(session, desk, words):
    many = _many_of(words)
    return None if many is None else _news(desk.undo(many=many))


def _redo(session, desk, words):
    many = _many_of(words)
    return None if many is None else _news(desk.redo(many=many))


def _demand(session, desk, words):
    claim = tuple(words)
    return _news(desk.demand(claim)) if is_claim(claim) else None


def _waive(session, desk, words):
    claim = tuple(words)
    return _news(desk.waive(claim)) if is_claim(claim) else None


def _units(session, desk, words):
    return None if words else _listed(desk.names)


def _verdicts(session, desk, words):
    return None if words else _news(list(desk.verdicts.items()))


def _claims(session, desk, words):
    return None if words else _listed([" ".join(claim) for claim in desk.claims])


def _made(session, desk, words):
    return None if words else _listed(desk.made)


def _inputs_of(words):
    """The tuple of the integers that words are, or None if one is none."""
    found = []
    for word in words:
        kind, number, _ = tokens_of(word)[0]
        if kind != "number" or len(tokens_of(word)) != 2 or " " in word or "\n" in word:
            return None
        found.append(number)
    return tuple(found)


def _run(session, desk, words):
    inputs = _inputs_of(words)
    if inputs is None:
        return None
    machine = desk.machine_for(inputs, MOST_STEPS)
    end = ("long",) if machine.ends is None else machine.ends
    return _in_lines([*machine.output, " ".join(end)])


COMMANDS = {
    "do": _do, "ask": _ask, "back": _back, "again": _again, "text": _text, "scheme": _scheme, "put": _put,
    "take": _take, "undo": _undo, "redo": _redo, "demand": _demand, "waive": _waive, "units": _units,
    "verdicts": _verdicts, "claims": _claims, "made": _made, "run": _run,
}


def _refused_text(reason):
    """The words of a claim, or the first word of a reason, with the exception of one that was raised."""
    return " ".join(["refused", *(reason if is_claim(reason) or reason[0] == "raised" else reason[:1])])


class Shell:
    """A session with some inputs, and a desk, that answer commands."""

    def __init__(self, inputs=()):
        self._session = Session(inputs)
        self._desk = Desk()
        self._many = 0

    def _done(self, line):
        """The answer to a line, or None if it is no command."""
        words = line.split(" ") if isinstance(line, str) else [""]
        if words[0] not in COMMANDS:
            return None
        command = COMMANDS[words[0]]
        return command(self._session, self._desk, words[1:])

    def answer(self, line):
        """The answer to a line."""
        try:
            found = self._done(line)
        except ParseError as parse:
            return "text" if parse.spot is None else f"text {parse.spot}"
        except UnknownName as unknown:
            return f"unknown {unknown.wanted}"
        except (InvalidOperation, InvalidUnit):
            return "cannot"
        except NothingToUndo as nothing:
            return f"nothing {nothing.many}"
        except TooMany as great:
            return f"many {great.limit}"
        except Refused as refused:
            return _refused_text(refused.reason)
        if found is None:
            return "what"
        self._many += 1
        return found

    def __call__(self, line):
        return self.answer(line)

    def session(self):
        """A twin of the session."""
        return self._session.twin()

    def desk(self):
        """A twin of the desk."""
        return self._desk.twin()

    def __len__(self):
        return len(list(range(self._many)))

    def __str__(self):
        return f"shell of {self._many} commands"
