"""A rule of LANGUAGE.md that can be looked up: words that stand nowhere in a file (L17)."""

import ast
import io
import re
import tokenize
import unittest

from tests.test_language import NO_WORDS, SOURCES, TREES

WORD = "type"
# These do not stand inside of longer words either.
PARTS = ("dataclass", "overload", "contextmanager")


def docstrings_of(tree):
    """The nodes of the docstrings."""
    found = set()
    for node in ast.walk(tree):
        if isinstance(node, (ast.Module, ast.ClassDef, ast.FunctionDef)) and node.body:
            first = node.body[0]
            if isinstance(first, ast.Expr) and isinstance(first.value, ast.Constant) and isinstance(first.value.value, str):
                found.add(first.value)
    return found


def annotations_of(tree):
    """All nodes that stand in annotations."""
    found = set()
    for node in ast.walk(tree):
        for part in (getattr(node, "annotation", None), getattr(node, "returns", None)):
            if isinstance(part, ast.AST):
                found |= set(ast.walk(part))
    return found


def has(text, words):
    return any(re.search(rf"\b{word}\b", text) for word in words) or any(part in text for part in PARTS)


def words_in(source):
    """The rows of a file in which a word stands that must not: (number of the row, what stands there)."""
    tree = ast.parse(source)
    free, strict = docstrings_of(tree), annotations_of(tree)
    for node in ast.walk(tree):
        if isinstance(node, ast.JoinedStr):
            strict |= set(ast.walk(node))
    found = []
    for node in ast.walk(tree):
        if isinstance(node, ast.Constant) and isinstance(node.value, (str, bytes)) and node not in free:
            plain = isinstance(node.value, str) and node not in strict
            text = node.value if isinstance(node.value, str) else node.value.decode("latin-1")
            if has(text, NO_WORDS if plain else NO_WORDS | {WORD}):
                found.append((node.lineno, text))
        elif isinstance(node, (ast.Name, ast.Attribute, ast.arg, ast.keyword, ast.alias, ast.FunctionDef, ast.ClassDef)):
            name = [getattr(node, field) for field in ("id", "attr", "arg", "name") if hasattr(node, field)][0]
            if name is not None and has(name, NO_WORDS | {WORD}):
                found.append((node.lineno, name))
    for token in tokenize.generate_tokens(io.StringIO(source).readline):
        if token.type == tokenize.NAME and has(token.string, NO_WORDS | {WORD}):
            found.append((token.start[0], token.string))
    return sorted(set(found))


class WordsTest(unittest.TestCase):
    def test_no_such_word_stands_in_a_file(self):
        self.assertEqual([(module, row) for module, source in SOURCES.items() for row in words_in(source)], [])

    def test_what_stands_nowhere_beside_a_subscript_of_its_own(self):
        own = [node for tree in TREES.values() for node in ast.walk(tree) if isinstance(node, ast.FunctionDef)]
        self.assertIn("__getitem__", [node.name for node in own])
        for module, source in SOURCES.items():
            for part in ("(type)", "Meta", "metaclass="):
                self.assertNotIn(part, source, module)

    def test_what_is_found(self):
        for text, many in (
                ('a = f"type {b}"', 1), ('a = f"{b} type"', 1), ('a = f"{b[\'type\']}"', 1), ('a = "type " + b', 0), ('a = "type"', 0),
                ('a = f"{b} types"', 0), ('a = f"with_type {b}"', 0), ('a = "a " f"{b} type"', 1), ('a = b"type"', 1),
                ('def f(a: "type"):\n return 1', 1), ('def f(a) -> "type":\n return 1', 1), ('a: "type" = 1', 1), ("type = 1", 1),
                ("a = b.type", 1), ("f(type=1)", 1), ('"""A type."""', 0), ("# a type", 0), ('def f():\n """type"""\n return 1', 0),
                ('a = "enum"', 1), ('a = "my dataclasses"', 1), ('a = f"{b} ABC"', 1), ("a = enum", 1), ('a = "enums"', 0),
                ('def f():\n a = 1\n "type"\n return f"x type"', 1)):
            self.assertEqual(len(words_in(text + "\n")), many, text)


if __name__ == "__main__":
    unittest.main()
