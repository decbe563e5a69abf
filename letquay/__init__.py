"""Letquay: an ML whose programs are typed, compiled and run, each step with something that can be checked."""
