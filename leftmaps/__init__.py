"""Leftmaps: places in a plane that nobody has seen from above."""
