"""Corner questions, and what is told by them."""
