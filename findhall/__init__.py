"""Findhall: a house of texts to be searched."""
