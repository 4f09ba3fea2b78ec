"""Counts of lots and choices by their nullities."""
