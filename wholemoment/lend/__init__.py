"""Setups, books of what is lent, the origin and the caches."""
