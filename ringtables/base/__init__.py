"""Lots of lines, and their sums."""
