"""Texts of runs."""
