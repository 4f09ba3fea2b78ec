"""Texts of webs, rings, marks, steps, full lots and nets."""
