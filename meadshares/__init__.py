"""Meadshares: a mead parted among those who have rights in it."""
