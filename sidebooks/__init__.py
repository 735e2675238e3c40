"""Books of linear questions, and all that can be answered together."""
