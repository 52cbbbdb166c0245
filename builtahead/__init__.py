"""Builtahead: a program of steps made ahead, right for all worlds."""
