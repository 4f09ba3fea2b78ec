"""Rings of chords, and the marks of their ends."""
