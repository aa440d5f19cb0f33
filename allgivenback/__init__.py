"""Allgivenback: memory that is given out, kept apart and given back."""
