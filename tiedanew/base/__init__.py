"""Bits, and what all modules ask of values."""
