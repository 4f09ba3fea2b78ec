"""Webs, their turns and their cut ranks."""
