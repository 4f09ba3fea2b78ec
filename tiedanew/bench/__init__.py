"""A bench with webs under names."""
