"""Lesser webs behind steps: rings or cores, orders or rounds of five."""
