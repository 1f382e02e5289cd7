"""Reelhall: one dance, told to each dancer alone."""
