"""Bodies of points."""
