"""What a cache can know of the store."""
