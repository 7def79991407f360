"""Wholemoment: pages of many pieces, lent by leases, that stood at one moment."""
