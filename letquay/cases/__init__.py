"""Matches: what rows meet, what they leave out, and trees of tests."""
