"""Nets of knots and lines."""
