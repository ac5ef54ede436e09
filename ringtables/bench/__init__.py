"""A bench that keeps a table."""
