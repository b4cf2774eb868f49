"""What is left where the wish moves."""
