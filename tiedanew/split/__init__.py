"""Splits of webs, and the parts into which webs fall."""
