"""Guessroom: hidden houses found by asking."""
