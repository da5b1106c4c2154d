"""Cuetimer: the timing of words beneath pictures."""
