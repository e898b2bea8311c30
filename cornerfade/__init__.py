"""Cornerfade: maps made simpler at every scale."""
