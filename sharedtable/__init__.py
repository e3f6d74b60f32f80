"""Mouths at one table: what they can eat together."""
