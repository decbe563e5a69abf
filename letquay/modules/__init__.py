"""Signatures, matching, structures, functors and units."""
