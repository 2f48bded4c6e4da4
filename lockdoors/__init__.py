"""Lockdoors: which doors of a building to lock for good."""
