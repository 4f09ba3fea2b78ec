"""Nets of knots with four ends, and their tours."""
