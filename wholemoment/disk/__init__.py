"""The disk of the origin, and its log."""
