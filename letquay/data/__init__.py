"""Declared types: faces, groups of datatypes, and looking up."""
