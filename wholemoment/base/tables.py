"""Dicts as they are returned: with ascending keys."""


def ascending(table):
    """A copy of a dict, its keys ascending."""
    return {key: table[key] for key in sorted(table)}
