"""Tables: their texts, and the weights that are nearest to their wishes."""
