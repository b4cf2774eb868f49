"""Fractions, rows of them, and systems."""
