"""The machine that runs code."""
