"""Mouths at one table: what they can eat together, and how it is shared most fairly."""
