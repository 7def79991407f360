"""Letters between machines."""
