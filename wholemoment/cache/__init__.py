"""What a cache keeps, and the moments at which it stood."""
