"""Which webs are kin, and the members of bits that tell it."""
