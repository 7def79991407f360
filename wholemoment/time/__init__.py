"""Clocks that run unlike."""
