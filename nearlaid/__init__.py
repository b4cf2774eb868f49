"""Nearlaid: weights laid nearest to a wish, by exact fractions."""
