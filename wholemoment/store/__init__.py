"""What the store keeps, and what is asked of it."""
