"""Mixkeep: nets of yes and no, and the mixes that keep them."""
