"""Whole runs: systems, what holds in all of them, and calms."""
