"""The tests of leftmaps."""
