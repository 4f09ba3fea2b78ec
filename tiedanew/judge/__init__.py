"""Claims, and one judge of their papers."""
