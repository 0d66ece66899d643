"""Leastguards: the least guards that keep wanted runs possible."""
