"""Strings of letters, their full lots, and letters told."""
