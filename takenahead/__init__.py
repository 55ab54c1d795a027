"""Takenahead: the greatest gap and the greatest disorder of numbers that sessions take in blocks."""
