"""Signs of tables."""
