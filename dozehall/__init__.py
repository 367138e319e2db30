"""Dozehall: rooms in which guests sleep only if it is still so."""
