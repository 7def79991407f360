"""Judges: which rule is needed, and the fewest asks."""
