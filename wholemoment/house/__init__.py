"""The desk at which a system is run."""
