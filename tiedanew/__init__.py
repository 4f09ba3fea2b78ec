"""Tiedanew: webs turned knot by knot, rings of chords, strings of letters."""
