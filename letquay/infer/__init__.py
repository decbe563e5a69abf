"""Typing of expressions and of declarations of values."""
