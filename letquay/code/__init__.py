"""Core terms and code, compiling and the judge of code."""
