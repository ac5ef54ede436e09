"""Nets of tables, or why there are none."""
