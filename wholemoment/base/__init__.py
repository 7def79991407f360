"""Whole numbers, plain values and their texts."""
